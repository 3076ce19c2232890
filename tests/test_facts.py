"""Facts of the document (2.3, 3.1, 4.1 to 4.3, e03) that break where steps are not what it says."""

import unittest

from onepicture.plays import Play
from onepicture.runs import can_step, events, first_standing, run, run_out, step

SEE = ("see",)


def all_standings(play):
    """Each standing that comes by any weaving, with the standings right behind it."""
    behind, waiting = {}, [first_standing(play)]
    while waiting:
        standing = waiting.pop()
        if standing not in behind:
            behind[standing] = [step(play, standing, hand) for hand in can_step(play, standing)]
            waiting.extend(behind[standing])
    return behind


def whole_weavings(behind, standing):
    """From what is told to how many ways lead to it."""
    counts, waiting = {}, [(standing, 1)]
    while waiting:
        standing, many = waiting.pop()
        if not behind[standing]:
            counts[standing[2]] = counts.get(standing[2], 0) + many
        waiting.extend((other, many) for other in behind[standing])
    return counts


def mixed_weaving(play, seed):
    """A whole weaving in which hands take turns in an order without a plan."""
    standing, weaving = first_standing(play), []
    while can_step(play, standing):
        seed = (seed * 1103515245 + 12345) % 2 ** 31
        going = can_step(play, standing)
        # One hand does a few steps at a stretch, so that others are passed by more than once.
        for hand in [going[(seed >> 16) % len(going)]] * ((seed >> 8) % 9 + 1):
            if hand in can_step(play, standing):
                standing = step(play, standing, hand)
                weaving.append(hand)
    return tuple(weaving)


def ended_looks(play, weaving):
    """Of each look that came to its end its begin, its end, its picture and its number of looks at a cell."""
    found, begun, standing = [], {}, first_standing(play)
    for at, (hand, word, cell) in enumerate(events(play, weaving)):
        behind = step(play, standing, hand)
        if word == "look":
            begin, many = begun.get(hand, (at, 0))
            begun[hand] = (begin, many + 1)
            ready = behind[1][hand][4] if behind[1][hand] is not None else None
            news = behind[2][hand][len(standing[2][hand]):] + (() if ready is None else (ready,))
            if news:
                found.append((begin, at + 1, news[0], begun.pop(hand)[1]))
        standing = behind
    return found


class MannersTest(unittest.TestCase):
    plays = [
        ((SEE, SEE), (("put", 1), ("put", 2), ("put", 3)), (("put", 4), SEE, ("put", 5))),
        ((SEE, ("put", 9), SEE), (("put", 1), SEE, ("put", 2)), (("put", 4), ("put", 6), ("put", 5)), (SEE,)),
        ((SEE, SEE, SEE), (("put", 0), ("put", 0), ("put", 0), ("put", 0), ("put", 0), ("put", 0))),
    ]

    def looks_of(self, kind):
        for scripts in self.plays:
            play = Play(kind, scripts)
            for seed in range(60):
                weaving = mixed_weaving(play, seed)
                standings = [run(play, weaving[:many]) for many in range(len(weaving) + 1)]
                moments = [tuple(cell[:2] for cell in standing[0]) for standing in standings]
                yield play, moments, ended_looks(play, weaving)

    def test_pictures_stood_between_begin_and_end(self):
        for kind in ("twice", "borrow"):
            for _, moments, looks in self.looks_of(kind):
                for begin, end, picture, _ in looks:
                    self.assertIn(picture, moments[begin:end + 1])

    def test_pictures_are_a_chain(self):
        for kind in ("twice", "borrow"):
            for _, _, looks in self.looks_of(kind):
                rows = sorted([number for number, _ in picture] for _, _, picture, _ in looks)
                for one, other in zip(rows, rows[1:]):
                    self.assertTrue(all(a <= b for a, b in zip(one, other)))

    def test_in_borrow_a_look_has_at_most_as_many_sweeps_as_hands_and_one(self):
        most = 0
        for play, _, looks in self.looks_of("borrow"):
            many = len(play.inputs)
            for _, _, _, steps in looks:
                self.assertEqual(steps % many, 0)
                self.assertLessEqual(steps // many, many + 1)
                most = max(most, steps // many)
        self.assertGreater(most, 2)

    def test_in_sweep_some_picture_never_stood(self):
        wrong = [picture for _, moments, looks in self.looks_of("sweep")
                 for begin, end, picture, _ in looks if picture not in moments[begin:end + 1]]
        self.assertTrue(wrong)


class AllWeavingsTest(unittest.TestCase):
    def test_counts_of_the_example(self):
        play = Play("chain", ((1,), (2,)))
        behind = all_standings(play)
        counts = whole_weavings(behind, first_standing(play))
        self.assertEqual(len(behind), 13)
        self.assertEqual(sum(counts.values()), 6)
        self.assertEqual(counts[(((1, 2),), ((1, 2),))], 4)

    def each_told(self, play):
        for standing in all_standings(play):
            came = [hand for hand, cell in enumerate(standing[0]) if cell not in (None, ())]
            yield came, {hand: told[0] for hand, told in enumerate(standing[2]) if told}

    def test_levels(self):
        for inputs in ((7,), (7, 8), (1, 2, 3)):
            for came, told in self.each_told(Play("levels", inputs)):
                for hand, picture in told.items():
                    self.assertIn((hand, inputs[hand]), picture)
                    self.assertTrue(all(other in came and value == inputs[other] for other, value in picture))
                    for other, picture_too in told.items():
                        one, two = set(picture), set(picture_too)
                        self.assertTrue(one <= two or two <= one)
                        if (other, inputs[other]) in one:
                            self.assertTrue(two <= one)

    def test_names(self):
        for inputs in ((3,), (30, 10), (5, 9, 2)):
            play = Play("names", inputs)
            for came, told in self.each_told(play):
                self.assertEqual(len(set(told.values())), len(told))
                self.assertTrue(all(1 <= name <= 2 * len(came) - 1 for name in told.values()))

    def test_who_is_alone_in_names_is_over_behind_four_steps(self):
        play = Play("names", (5, 9, 2))
        for standing in all_standings(play):
            for hand in can_step(play, standing):
                alone, many = standing, 0
                while hand in can_step(play, alone):
                    alone, many = step(play, alone, hand), many + 1
                self.assertLessEqual(many, 4)

    def test_near(self):
        for rounds, values in ((1, (0, 10, -7)), (2, (5, -5)), (3, (0, 9))):
            for came, told in self.each_told(Play("near", (rounds, values))):
                there = [values[hand] for hand in came]
                tops = [top for top, _ in told.values()]
                for top in tops:
                    self.assertTrue(min(there) * 2 ** rounds <= top <= max(there) * 2 ** rounds)
                    self.assertLessEqual(max(tops) - min(tops), max(there) - min(there))

    def test_chain(self):
        inputs = ((1, 2), (), (2, 3))
        for came, told in self.each_told(Play("chain", inputs)):
            for hand, lot in told.items():
                self.assertLessEqual(set(inputs[hand]), set(lot))
                for other in told.values():
                    self.assertTrue(set(lot) <= set(other) or set(other) <= set(lot))

    def test_each_run_ends(self):
        for play in (Play("levels", (1, 2, 3)), Play("names", (5, 9, 2)), Play("near", (2, (1, 2)))):
            for seed in range(20):
                weaving = mixed_weaving(play, seed)
                self.assertEqual(run_out(play, weaving), weaving)


if __name__ == "__main__":
    unittest.main()
