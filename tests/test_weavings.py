"""All weavings of small plays: counted, and gone through for the least wrong one (5.1, 5.2)."""

import unittest
from unittest import mock

from onepicture import weavings
from onepicture.errors import NoNumber, NotWrong, NoWeaving, TooMany
from onepicture.faults import fault
from onepicture.moments import bound, looks, moments
from onepicture.plays import MANNERS, Play, many_hands
from onepicture.runs import can_step, events, first_standing, run, run_out
from onepicture.weavings import is_wrong, least_wrong, longest, many_standings, many_weavings, outcomes, shrunk
from tests.samples import strange_things
from tests.test_facts import all_standings, mixed_weaving, whole_weavings

SEE = ("see",)
PUT = ("put", 1)
EXAMPLE = Play("sweep", ((SEE,), (("put", 5),), (("put", 6),)))
LARGE = Play("borrow", ((SEE, PUT, SEE),) * 5)
SMALL_PLAYS = [
    EXAMPLE, Play("sweep", ((SEE, PUT), (PUT, SEE))), Play("twice", ((SEE,), (PUT, PUT))), Play("twice", ((SEE,), (PUT,))),
    Play("borrow", ((SEE,), (PUT,))), Play("levels", (7, 8)), Play("names", (30, 10)), Play("near", (1, (0, 10))),
    Play("chain", ((1,), (2,))), Play("chain", ((1,), (2,), (1,))), Play("sweep", ((), ())), Play("levels", (1,)),
]


def put_only(kind, *counts):
    """A play of hands that put so often, and do nothing else."""
    return Play(kind, tuple((PUT,) * many for many in counts))


def see_only(kind, *counts):
    return Play(kind, tuple((SEE,) * many for many in counts))


def in_turns(play, seed):
    """A whole weaving in which another hand may go on with each step."""
    weaving = []
    while can_step(play, run(play, weaving)):
        seed = (seed * 1103515245 + 12345) % 2 ** 31
        going = can_step(play, run(play, weaving))
        weaving.append(going[(seed >> 16) % len(going)])
    return tuple(weaving)


def all_weavings(play, most):
    """All weavings of at most so many steps, shorter ones first, those of one length ascending."""
    row = [()]
    while row and len(row[0]) <= most:
        yield from row
        row = [weaving + (hand,) for weaving in row for hand in can_step(play, run(play, weaving))]


class CountsTest(unittest.TestCase):
    asked = (many_standings, many_weavings, outcomes, longest)

    def test_the_example(self):
        play = Play("chain", ((1,), (2,)))
        self.assertEqual(many_standings(play), 13)
        self.assertEqual(many_weavings(play), 6)
        self.assertEqual(longest(play), 4)
        self.assertEqual(outcomes(play), {
            (((1, 2),), ((1, 2),)): 4, (((1,),), ((1, 2),)): 1, (((1, 2),), ((2,),)): 1,
        })

    def test_all_gone_through_one_by_one(self):
        for play in SMALL_PLAYS:
            with self.subTest(play.kind, inputs=play.inputs):
                behind = all_standings(play)
                counts = whole_weavings(behind, first_standing(play))
                self.assertEqual(many_standings(play), len(behind))
                self.assertEqual(outcomes(play), counts)
                self.assertEqual(many_weavings(play), sum(counts.values()))
                whole = [len(one) for one in all_weavings(play, 99) if not can_step(play, run(play, one))]
                self.assertEqual((many_weavings(play), longest(play)), (len(whole), max(whole)))

    def test_hands_of_puts_alone(self):
        play = put_only("sweep", 2, 3, 1)
        self.assertEqual(many_standings(play), 3 * 4 * 2)
        self.assertEqual(many_weavings(play), 60)
        self.assertEqual(longest(play), 6)
        self.assertEqual(outcomes(play), {((), (), ()): 60})

    def test_no_steps_at_all(self):
        play = Play("twice", ((), ()))
        self.assertEqual([asked(play) for asked in self.asked], [1, 1, {((), ()): 1}, 0])

    def test_standings_to_which_unlike_numbers_of_steps_lead(self):
        play = Play("twice", ((SEE,), (PUT, PUT)))
        lengths = {len(one) for one in all_weavings(play, 99) if not can_step(play, run(play, one))}
        self.assertEqual(lengths, {6, 8, 10})
        self.assertEqual(longest(play), 10)

    def test_five_hands_of_puts_alone(self):
        play = put_only("twice", 6, 6, 6, 6, 6)
        self.assertEqual(many_standings(play), 7 ** 5)
        self.assertEqual(many_weavings(play), 1370874167589326400)
        self.assertEqual(longest(play), 30)
        self.assertEqual(outcomes(play), {((),) * 5: 1370874167589326400})

    def test_just_below_and_just_beyond_20000_standings(self):
        self.assertEqual(many_standings(see_only("sweep", 1, 2, 5, 5)), 19845)
        self.assertEqual(longest(see_only("sweep", 1, 2, 5, 5)), 13 * 4)
        for play in (see_only("twice", 0, 2, 3, 0, 3), see_only("sweep", 0, 0, 4, 6, 6), LARGE,
                     Play("names", (1, 2, 3, 4, 5)), Play("levels", (1, 2, 3, 4)), Play("near", (6, (1, 2, 3, 4, 5)))):
            for asked in self.asked:
                with self.subTest(asked.__name__, kind=play.kind), self.assertRaises(TooMany) as caught:
                    asked(play)
                self.assertEqual(caught.exception.most, 20000)

    def test_as_many_standings_as_are_gone_through_at_most_are_not_too_many(self):
        for play in SMALL_PLAYS:
            many = len(all_standings(play))
            with mock.patch.object(weavings, "MOST_STANDINGS", many):
                self.assertEqual(many_standings(play), many)
            if many > 1:
                with mock.patch.object(weavings, "MOST_STANDINGS", many - 1):
                    for asked in self.asked:
                        self.assertRaises(TooMany, asked, play)

    def test_facts_of_counts(self):
        for play in SMALL_PLAYS:
            self.assertEqual(sum(outcomes(play).values()), many_weavings(play))
            if play.kind != "names":
                self.assertLessEqual(longest(play), bound(play))

    def test_the_dict_is_new(self):
        play = Play("chain", ((1,), (2,)))
        first = outcomes(play)
        first.clear()
        self.assertEqual(len(outcomes(play)), 3)


class IsWrongTest(unittest.TestCase):
    def test_manners_by_their_moments(self):
        self.assertIs(is_wrong(EXAMPLE, (0, 0, 1, 2, 0)), True)
        self.assertIs(is_wrong(EXAMPLE, [0, 0, 1, 2, 0]), True)
        for weaving in ((), (0, 0, 1, 2), (0, 0, 2, 1, 0), (0, 0, 2, 0, 1), (0, 1, 0, 2, 0), [1, 2, 0, 0, 0]):
            self.assertIs(is_wrong(EXAMPLE, weaving), False)

    def test_wrong_behind_a_look_and_ahead_of_one(self):
        play = Play("sweep", ((SEE, SEE), (PUT,), (PUT,)))
        self.assertIs(is_wrong(play, (0, 0, 0, 0, 0, 1, 2, 0)), True)
        self.assertIs(is_wrong(play, (0, 0, 1, 2, 0, 0, 0, 0)), True)

    def test_other_kinds_have_none(self):
        for play in SMALL_PLAYS:
            if play.kind != "sweep":
                for seed in range(10):
                    weaving = mixed_weaving(play, seed)
                    for many in range(len(weaving) + 1):
                        self.assertIs(is_wrong(play, weaving[:many]), False)

    def test_other_kinds_by_the_fault_of_those_that_came(self):
        asked = []

        def faulty(play, came, told):
            asked.append((came, told))
            return "alike"

        play = Play("names", (30, 10, 20))
        with mock.patch.object(weavings, "fault", faulty):
            self.assertIs(is_wrong(play, [2, 0, 2]), True)
            self.assertIs(is_wrong(play, ()), True)
        self.assertEqual(asked, [((0, 2), run(play, (2, 0, 2))[2]), ((), ((), (), ()))])

    def test_no_weaving(self):
        for play in SMALL_PLAYS:
            many = many_hands(play)
            whole = run_out(play, ())
            rows = [((many,), 0), (whole + (0,), len(whole)), ([None], 0), ("", -1), (None, -1), ((True,), 0)]
            rows += [(thing, -1) for thing in strange_things() if not isinstance(thing, (list, tuple))]
            for weaving, index in rows:
                for asked in (is_wrong, shrunk):
                    with self.subTest(asked.__name__, weaving=repr(weaving)), self.assertRaises(NoWeaving) as caught:
                        asked(play, weaving)
                    self.assertEqual(caught.exception.index, index)


class LeastWrongTest(unittest.TestCase):
    def test_the_example(self):
        self.assertEqual(least_wrong(EXAMPLE, 9), (0, 0, 1, 2, 0))
        self.assertEqual(least_wrong(EXAMPLE, 5), (0, 0, 1, 2, 0))
        self.assertEqual(least_wrong(EXAMPLE, 40), (0, 0, 1, 2, 0))

    def test_too_few_steps(self):
        for most in range(5):
            self.assertIsNone(least_wrong(EXAMPLE, most))

    def test_the_least_of_all_gone_through_one_by_one(self):
        plays = SMALL_PLAYS + [
            Play("sweep", ((PUT,), (SEE,), (PUT, SEE))), Play("sweep", ((PUT, SEE), (PUT,), (SEE, PUT))),
            Play("sweep", ((PUT,), (PUT,), (SEE, SEE))), Play("sweep", ((), (PUT,), (SEE,), (PUT,))),
        ]
        found = []
        for play in plays:
            for most in (0, 3, 5, 6, 7):
                wrong = [one for one in all_weavings(play, most) if is_wrong(play, one)]
                least = wrong[0] if wrong else None
                with self.subTest(play.kind, inputs=play.inputs, most=most):
                    self.assertEqual(least_wrong(play, most), least)
                    found.append(least)
        self.assertEqual(len({least for least in found if least}), 4)

    def test_no_number(self):
        for thing in [thing for thing in strange_things() if repr(thing) != "5"] + [41, -1, True, False, None, "9", (9,), [9], 9.0]:
            for play in (EXAMPLE, LARGE, SMALL_PLAYS[-1]):
                with self.subTest(repr(thing)), self.assertRaises(NoNumber):
                    least_wrong(play, thing)
        self.assertIsNone(least_wrong(SMALL_PLAYS[-1], 0))
        self.assertIsNone(least_wrong(SMALL_PLAYS[-1], 40))

    def test_too_many(self):
        for play in (LARGE, Play("twice", LARGE.inputs), Play("names", (1, 2, 3, 4, 5)), Play("levels", (1, 2, 3, 4))):
            with self.subTest(play.kind), self.assertRaises(TooMany) as caught:
                least_wrong(play, 40)
            self.assertEqual(caught.exception.most, 20000)
            self.assertIsNone(least_wrong(play, 4))

    def test_many_standings_with_a_short_wrong_weaving(self):
        play = Play("sweep", ((SEE,) * 6, (PUT,) * 6, (PUT,) * 6, (SEE,) * 6))
        self.assertRaises(TooMany, many_standings, play)
        self.assertEqual(least_wrong(play, 40), (0, 0, 1, 2, 0, 0))

    def standings_led_to(self, play, most):
        """The unlike standings, with what stood since the begin of each look that is going on, as 5.2 counts them."""
        least = least_wrong(play, most)
        below = most if least is None else len(least)
        found = set()
        for weaving in all_weavings(play, below - 1):
            if not is_wrong(play, weaving):
                standings = [run(play, weaving[:many]) for many in range(len(weaving) + 1)]
                since = [frozenset(self.stood(standings[begin:])) for begin in self.begins(play, weaving)]
                found.add((standings[-1], tuple(since)))
        return len(found)

    def stood(self, standings):
        return [tuple(cell[:2] for cell in cells) for cells, _, _ in standings]

    def begins(self, play, weaving):
        """For each hand the begin of its look that is going on, behind the last step where none is."""
        begins = [len(weaving) + 1] * many_hands(play)
        if play.kind in MANNERS:
            ends = {(hand, end) for hand, _, _, end, _ in looks(play, weaving)}
            for at, (hand, word, _) in enumerate(events(play, weaving)):
                if word == "look":
                    begins[hand] = min(begins[hand], at)
                if (hand, at + 1) in ends:
                    begins[hand] = len(weaving) + 1
        return begins

    def test_as_many_as_are_gone_through_at_most_are_not_too_many(self):
        plays = SMALL_PLAYS + [
            Play("sweep", ((PUT,), (SEE,), (PUT, SEE))), Play("sweep", ((SEE,), (PUT,), (SEE,), (PUT,))),
            Play("twice", ((SEE,), (PUT,), (PUT, SEE))), Play("borrow", ((SEE, PUT), (PUT, PUT))),
        ]
        unlike = 0
        for play in plays:
            for most in (1, 4, 6, 7):
                many, least = self.standings_led_to(play, most), least_wrong(play, most)
                unlike += many > 1
                with self.subTest(play.kind, inputs=play.inputs, most=most):
                    with mock.patch.object(weavings, "MOST_STANDINGS", many):
                        self.assertEqual(least_wrong(play, most), least)
                    if many > 1:
                        with mock.patch.object(weavings, "MOST_STANDINGS", many - 1):
                            self.assertRaises(TooMany, least_wrong, play, most)
        self.assertGreater(unlike, 40)

    def test_other_kinds_by_the_fault_of_those_that_came(self):
        play = Play("names", (30, 10, 20))
        for came in ((0,), (0, 1), (0, 2), (1, 2), (0, 1, 2)):
            def faulty(play, there, told):
                return "great" if there == came and told[came[-1]] else None

            with mock.patch.object(weavings, "fault", faulty):
                wrong = [one for one in all_weavings(play, 6) if is_wrong(play, one)]
                self.assertEqual(least_wrong(play, 6), wrong[0])
                self.assertIsNone(least_wrong(play, len(wrong[0]) - 1))

    def test_plays_in_sweep_have_some_if_one_sees_and_two_others_put(self):
        for scripts, there in ((((SEE,), (PUT,), (PUT,)), True), (((PUT,), (SEE,), (PUT,)), True),
                               (((PUT,), (PUT,), (SEE,)), True), (((SEE, PUT), (PUT,), ()), False),
                               (((SEE, PUT), (SEE, PUT)), False), (((SEE,), (SEE,), (PUT, PUT)), False),
                               (((SEE, PUT), (SEE, PUT), (PUT,)), True), (((PUT,), (PUT,), (PUT,)), False)):
            for kind in MANNERS:
                least = least_wrong(Play(kind, scripts), 14)
                self.assertEqual(least is not None, there and kind == "sweep", (kind, scripts))


class ShrunkTest(unittest.TestCase):
    play = Play("sweep", ((SEE, SEE), (PUT, SEE), (PUT, PUT)))

    def test_no_step_can_be_left_out(self):
        self.assertEqual(shrunk(EXAMPLE, (0, 0, 1, 2, 0)), (0, 0, 1, 2, 0))
        self.assertEqual(shrunk(EXAMPLE, [0, 0, 1, 2, 0]), (0, 0, 1, 2, 0))

    def test_steps_that_can_be_left_out_are_left_out(self):
        self.assertEqual(shrunk(self.play, (0, 0, 1, 1, 1, 2, 0, 2, 1, 0, 0)), (0, 0, 1, 2, 0))
        self.assertEqual(shrunk(self.play, [2, 0, 0, 1, 2, 1, 0]), (0, 0, 1, 2, 0))
        play = Play("sweep", ((SEE, SEE), (PUT,), (PUT,), (SEE,)))
        # Of the right look ahead of the wrong one none of the four steps can go alone: the other look would end early.
        self.assertEqual(shrunk(play, (3, 0, 0, 0, 0, 0, 3, 0, 1, 2, 0, 3, 0)), (0, 0, 0, 0, 0, 0, 1, 2, 0, 0))

    def test_a_step_that_could_not_be_left_out_ahead_of_others_can_be_behind_them(self):
        # Each of the two wrong looks is left, and either could go: the first step of both is tried first.
        play = Play("sweep", ((SEE, SEE), (PUT, PUT), (PUT, PUT)))
        weaving = (0, 0, 1, 2, 0, 0, 0, 1, 2, 0)
        self.assertEqual(moments(play, weaving), (None, None))
        self.assertEqual(shrunk(play, weaving), self.shrunk_by_words(play, weaving))

    def shrunk_by_words(self, play, weaving):
        weaving = tuple(weaving)
        at = 0
        while at < len(weaving):
            shorter = weaving[:at] + weaving[at + 1:]
            if None in moments(play, shorter):
                weaving, at = shorter, 0
            else:
                at += 1
        return weaving

    def test_mixed_weavings(self):
        play = Play("sweep", ((SEE, PUT, SEE), (PUT, SEE), (PUT, ("put", 2))))
        many = 0
        for seed in range(200):
            weaving = in_turns(play, seed)
            if is_wrong(play, weaving):
                many += 1
                left = shrunk(play, list(weaving))
                self.assertEqual(left, self.shrunk_by_words(play, weaving))
                self.assertIs(is_wrong(play, left), True)
                self.assertTrue(all(not is_wrong(play, left[:at] + left[at + 1:]) for at in range(len(left))))
        self.assertGreater(many, 5)

    def test_not_wrong(self):
        for play in SMALL_PLAYS:
            for weaving in ((), [], run_out(play, ()), list(run_out(play, ()))):
                with self.subTest(play.kind), self.assertRaises(NotWrong):
                    shrunk(play, weaving)
        self.assertRaises(NotWrong, shrunk, EXAMPLE, (0, 0, 1, 2))

    def test_what_is_left_is_a_weaving(self):
        # Were it wrong that hand 1 tells: without the put of hand 0 it would tell, too, but then go on when it is over.
        play = Play("names", (1, 2))
        with mock.patch.object(weavings, "fault", lambda play, came, told: "alike" if told[1] else None):
            self.assertEqual(shrunk(play, (0, 1, 0, 1, 1, 1)), (1, 0, 1, 1, 1))

    def test_a_list_stays_as_it_was(self):
        weaving = [0, 0, 1, 2, 0]
        shrunk(EXAMPLE, weaving)
        is_wrong(EXAMPLE, weaving)
        self.assertEqual(weaving, [0, 0, 1, 2, 0])


class FaultsOfRunsTest(unittest.TestCase):
    def test_names_see_by_whom_they_came(self):
        play = Play("names", (30, 10))
        told = run(play, (0, 1, 0, 0, 0, 1))[2]
        self.assertEqual(told, ((3,), (1,)))
        self.assertIsNone(fault(play, (0, 1), told))
        self.assertEqual(fault(play, (1,), told), "came")


if __name__ == "__main__":
    unittest.main()
