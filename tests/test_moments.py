"""Looks, the moments at which their pictures stood, their sweeps, papers, bounds (2.2, 2.3)."""

import unittest

from onepicture.errors import NoManner, NoWeaving
from onepicture.moments import bound, is_paper, looks, moments, sweeps
from onepicture.plays import Play, many_hands
from onepicture.runs import can_step, events, first_standing, run, run_out, step
from tests.samples import strange_things
from tests.test_facts import mixed_weaving

SEE = ("see",)
PUT = ("put", 1)
EXAMPLE = Play("sweep", ((SEE,), (("put", 5),), (("put", 6),)))
OTHERS = [
    Play("levels", (7, 8)), Play("names", (30, 10)), Play("near", (2, (0, 10))), Play("chain", ((1,), (2,))),
]


def stood_along(play, weaving):
    """The numbers and values of all cells at each moment."""
    standings = [run(play, weaving[:many]) for many in range(len(weaving) + 1)]
    return [tuple((number, value) for number, value, _ in standing[0]) for standing in standings]


class LooksTest(unittest.TestCase):
    def check(self, play, weaving, rows):
        """Rows: hand, deed, begin, end, picture, sweeps, and all moments at which the picture stood."""
        for form in (tuple(weaving), list(weaving)):
            found = looks(play, form)
            self.assertEqual(found, tuple(row[:5] for row in rows))
            self.assertEqual(repr(found), repr(tuple(row[:5] for row in rows)))
            self.assertEqual(sweeps(play, form), tuple(row[5] for row in rows))
            leasts = tuple(min(row[6], default=None) for row in rows)
            self.assertEqual(moments(play, form), leasts)
            self.assertEqual(form, type(form)(weaving))
        self.check_papers(play, weaving, [row[6] for row in rows], leasts)

    def check_papers(self, play, weaving, rows, leasts):
        self.assertIs(is_paper(play, weaving, leasts), None not in leasts)
        self.assertIs(is_paper(play, weaving, list(leasts)), False)
        self.assertIs(is_paper(play, weaving, leasts + (0,)), False)
        self.assertIs(is_paper(play, weaving, leasts + (None,)), False)
        for at, there in enumerate(rows):
            self.assertIs(is_paper(play, weaving, leasts[:at] + leasts[at + 1:]), False)
            for moment in range(-2, len(weaving) + 3):
                paper = leasts[:at] + (moment,) + leasts[at + 1:]
                right = moment in there and None not in leasts
                self.assertIs(is_paper(play, weaving, paper), right, paper)

    def test_the_example(self):
        self.check(EXAMPLE, (0, 0, 1, 2, 0), [(0, 0, 0, 5, ((0, 0), (0, 0), (1, 6)), 1, [])])
        self.assertIs(is_paper(EXAMPLE, (0, 0, 1, 2, 0), (None,)), False)

    def test_no_looks_that_ended(self):
        for kind in ("sweep", "twice", "borrow"):
            play = Play(kind, ((SEE, SEE), (PUT,)))
            self.check(play, (), [])
            self.check(play, (0,), [])
            self.check(Play(kind, ((), ())), (), [])
            for thing in ((None,), (0,), [], None, False, 0, ""):
                self.assertIs(is_paper(play, (0,), thing), False)

    def test_sweep_tells_its_first_sweep(self):
        play = Play("sweep", ((SEE, ("put", 3), SEE), (("put", 5), SEE)))
        self.check(play, (0, 0, 0, 0, 1, 0, 1, 1), [
            (0, 0, 0, 2, ((0, 0), (0, 0)), 1, [0, 1, 2]),
            (0, 2, 3, 6, ((1, 3), (1, 5)), 1, [5, 6]),
            (1, 1, 6, 8, ((1, 3), (1, 5)), 1, [6, 7, 8]),
        ])

    def test_sweep_with_a_wrong_picture_beside_a_right_one(self):
        play = Play("sweep", ((SEE, SEE), (("put", 5),), (("put", 6),)))
        self.check(play, (0, 0, 1, 2, 0, 0, 0, 0), [
            (0, 0, 0, 5, ((0, 0), (0, 0), (1, 6)), 1, []),
            (0, 1, 5, 8, ((0, 0), (1, 5), (1, 6)), 1, [5, 6, 7, 8]),
        ])

    def test_in_sweep_a_picture_stood_if_others_put_in_the_order_of_the_looks(self):
        play = Play("sweep", ((SEE,), (("put", 5),), (("put", 6),)))
        self.check(play, (1, 0, 0, 2, 0), [(0, 0, 1, 5, ((0, 0), (1, 5), (1, 6)), 1, [4, 5])])
        self.check(play, (0, 0, 2, 0, 1), [(0, 0, 0, 4, ((0, 0), (0, 0), (1, 6)), 1, [3, 4])])
        self.check(play, (2, 0, 0, 1, 0), [(0, 0, 1, 5, ((0, 0), (0, 0), (1, 6)), 1, [1, 2, 3])])

    def test_equal_values_but_unlike_numbers_are_unlike_pictures(self):
        play = Play("sweep", ((SEE,), (("put", 0),), (("put", 0),)))
        self.check(play, (0, 0, 1, 2, 0), [(0, 0, 0, 5, ((0, 0), (0, 0), (1, 0)), 1, [])])
        play = Play("sweep", ((SEE,), (PUT, PUT), (PUT, PUT)))
        self.check(play, (1, 2, 0, 0, 1, 2, 0), [(0, 0, 2, 7, ((0, 0), (1, 1), (2, 1)), 1, [])])

    def test_begin_is_ahead_of_the_steps_of_others(self):
        play = Play("sweep", ((PUT, SEE), (("put", 5), ("put", 6)), (SEE,)))
        self.check(play, (0, 1, 2, 0, 1, 2, 0, 2, 0), [
            (2, 0, 2, 8, ((1, 1), (2, 6), (0, 0)), 1, [5, 6, 7, 8]),
            (0, 1, 3, 9, ((1, 1), (2, 6), (0, 0)), 1, [5, 6, 7, 8, 9]),
        ])

    def test_looks_that_are_going_on_are_left_out(self):
        play = Play("sweep", ((SEE,), (SEE,), (PUT,)))
        self.check(play, (0, 1, 1, 1, 2, 0), [(1, 0, 1, 4, ((0, 0), (0, 0), (0, 0)), 1, [1, 2, 3, 4])])

    def test_twice_goes_on_till_two_sweeps_are_alike(self):
        play = Play("twice", ((SEE,), (("put", 7), ("put", 8))))
        weaving = (0, 0, 1, 0, 0, 1, 0, 0, 0, 0)
        self.assertEqual(bound(play), len(weaving))
        self.check(play, weaving, [(0, 0, 0, 10, ((0, 0), (2, 8)), 4, [6, 7, 8, 9, 10])])
        self.check(play, weaving[:-1], [])

    def test_twice_in_between_puts_of_others(self):
        play = Play("twice", ((("put", 4), SEE, SEE), (("put", 7), ("put", 8))))
        self.check(play, (1, 0, 0, 0, 0, 0, 1, 0, 0, 0, 0), [
            (0, 1, 2, 6, ((1, 4), (1, 7)), 2, [2, 3, 4, 5, 6]),
            (0, 2, 7, 11, ((1, 4), (2, 8)), 2, [7, 8, 9, 10, 11]),
        ])

    def test_a_picture_stood_till_ahead_of_the_end(self):
        play = Play("twice", ((SEE,), (("put", 7),)))
        # The second sweep looks at cell 1 last: the put behind it comes too late, that ahead of it is seen.
        self.check(play, (0, 0, 0, 0, 1), [(0, 0, 0, 4, ((0, 0), (0, 0)), 2, [0, 1, 2, 3, 4])])
        play = Play("twice", ((("put", 7),), (SEE,)))
        self.check(play, (1, 1, 1, 0, 1), [(1, 0, 0, 5, ((0, 0), (0, 0)), 2, [0, 1, 2, 3])])

    def test_borrow_tells_the_picture_of_another(self):
        play = Play("borrow", ((SEE,), (("put", 7), ("put", 8))))
        self.check(play, (0, 0) + (1,) * 10 + (0, 0), [
            (1, 0, 2, 6, ((0, 0), (0, 0)), 2, [2, 3, 4, 5, 6]),
            (1, 1, 7, 11, ((0, 0), (1, 7)), 2, [7, 8, 9, 10, 11]),
            (0, 0, 0, 14, ((0, 0), (1, 7)), 2, [7, 8, 9, 10, 11]),
        ])

    def test_borrow_with_as_many_sweeps_as_hands_and_one(self):
        play = Play("borrow", ((SEE,), (("put", 7), ("put", 8))))
        self.check(play, (0, 0) + (1,) * 5 + (0, 0) + (1,) * 5 + (0, 0), [
            (1, 0, 2, 6, ((0, 0), (0, 0)), 2, [2, 3, 4, 5, 6]),
            (1, 1, 9, 13, ((0, 0), (1, 7)), 2, [9, 10, 11, 12, 13]),
            (0, 0, 0, 16, ((0, 0), (1, 7)), 3, [7, 8, 9, 10, 11, 12, 13]),
        ])

    def test_looks_ahead_of_a_put_in_borrow_belong_to_its_deed(self):
        play = Play("borrow", ((("put", 9), SEE), (("put", 7),)))
        self.check(play, (1, 1, 0, 1, 1, 0, 1, 0, 0, 0, 0, 0), [
            (1, 0, 0, 5, ((0, 0), (0, 0)), 2, [0, 1, 2, 3, 4, 5]),
            (0, 0, 2, 11, ((0, 0), (1, 7)), 3, [7, 8, 9, 10, 11]),
        ])

    def test_one_hand_alone(self):
        self.check(Play("sweep", ((SEE, PUT, SEE),)), (0, 0, 0), [
            (0, 0, 0, 1, ((0, 0),), 1, [0, 1]), (0, 2, 2, 3, ((1, 1),), 1, [2, 3]),
        ])
        self.check(Play("twice", ((SEE,),)), (0, 0), [(0, 0, 0, 2, ((0, 0),), 2, [0, 1, 2])])
        self.check(Play("borrow", ((PUT, SEE),)), (0, 0, 0, 0, 0), [
            (0, 0, 0, 2, ((0, 0),), 2, [0, 1, 2]), (0, 1, 3, 5, ((1, 1),), 2, [3, 4, 5]),
        ])

    def test_moments_are_those_gone_through_one_by_one(self):
        scripts = ((SEE, PUT, SEE), (PUT, SEE, ("put", 2)), (("put", 4), ("put", 6), ("put", 5), SEE))
        for kind in ("sweep", "twice", "borrow"):
            play = Play(kind, scripts)
            for seed in range(8):
                weaving = mixed_weaving(play, seed)
                stood, found = stood_along(play, weaving), looks(play, weaving)
                self.assertEqual([end for _, _, _, end, _ in found], sorted(end for _, _, _, end, _ in found))
                right = [[at for at in range(begin, end + 1) if stood[at] == picture]
                         for _, _, begin, end, picture in found]
                leasts = tuple(min(there, default=None) for there in right)
                self.assertEqual(moments(play, weaving), leasts)
                self.check_papers(play, weaving, right, leasts)
                told = [[picture for hand, deed, _, _, picture in found if hand == number and script[deed] == SEE]
                        for number, script in enumerate(scripts)]
                self.assertEqual(run(play, weaving)[2], tuple(tuple(row) for row in told))


class PaperTest(unittest.TestCase):
    play = Play("sweep", ((SEE,), (SEE,)))
    weaving = (0, 1, 0, 1)

    def test_any_moment_counts_not_only_the_least(self):
        self.assertEqual(moments(self.play, self.weaving), (0, 1))
        papers = [(one, other) for one in range(-1, 6) for other in range(-1, 6)
                  if is_paper(self.play, self.weaving, (one, other))]
        self.assertEqual(papers, [(one, other) for one in (0, 1, 2, 3) for other in (1, 2, 3, 4)])

    def test_flags_and_others_are_no_moments(self):
        for thing in (True, False, None, 0.0, 1.0, "0", b"0", (0,), [0], {}, 10 ** 19, -1):
            self.assertIs(is_paper(self.play, self.weaving, (thing, 1)), False)
            self.assertIs(is_paper(self.play, self.weaving, (0, thing)), False)
        self.assertIs(is_paper(self.play, self.weaving, (0, 1)), True)

    def test_other_things_are_no_papers(self):
        for thing in strange_things() + [[0, 1], (0,), (0, 1, 2), (1,), ((0, 1),), {0: 1}, "01", b"\x00\x01"]:
            with self.subTest(repr(thing)):
                self.assertIs(is_paper(self.play, self.weaving, thing), False)
                self.assertIs(is_paper(self.play, self.weaving, (thing, thing)), False)
                self.assertIs(is_paper(EXAMPLE, (0, 0, 1, 2, 0), (thing,)), False)

    def test_long_things(self):
        self.assertIs(is_paper(self.play, self.weaving, (0,) * 20000), False)
        self.assertIs(is_paper(self.play, (), ()), True)

    def test_a_thing_stays_as_it_was(self):
        thing = ([0, {1: [2]}], 1)
        self.assertIs(is_paper(self.play, self.weaving, thing), False)
        self.assertEqual(thing, ([0, {1: [2]}], 1))


class ErrorsTest(unittest.TestCase):
    asked = (looks, moments, sweeps, lambda play, weaving: is_paper(play, weaving, ()))

    def test_no_manner_whatever_the_weaving(self):
        for play in OTHERS:
            for weaving in [(), (0,), [0, 1], (0,) * 99] + strange_things():
                for asked in self.asked:
                    with self.subTest(play.kind, weaving=repr(weaving)[:60]), self.assertRaises(NoManner):
                        asked(play, weaving)

    def test_no_weaving(self):
        for weaving, index in (((0, 0, 0, 0), 3), ([3], 0), ((0, 1, 2, 1, 7), 3), ((0, True), 1), ((-1,), 0),
                               ("", -1), (None, -1), (range(2), -1), ({}, -1), ((0, [0]), 1)):
            for asked in self.asked:
                with self.subTest(weaving=repr(weaving)), self.assertRaises(NoWeaving) as caught:
                    asked(EXAMPLE, weaving)
                self.assertEqual(caught.exception.index, index)

    def test_is_paper_raises_whatever_the_thing(self):
        for thing in strange_things():
            with self.assertRaises(NoManner):
                is_paper(OTHERS[0], (9,), thing)
            with self.assertRaises(NoWeaving):
                is_paper(EXAMPLE, (9,), thing)


class BoundTest(unittest.TestCase):
    def test_sweep(self):
        self.assertEqual(bound(EXAMPLE), 5)
        self.assertEqual(bound(Play("sweep", ((SEE, PUT, SEE), (), (PUT, PUT), (SEE,)))), 2 * 4 + 1 + 2 + 4)
        self.assertEqual(bound(Play("sweep", ((), ()))), 0)
        self.assertEqual(bound(Play("sweep", ((SEE,) * 6,) * 5)), 150)

    def test_twice_counts_the_puts_of_others(self):
        self.assertEqual(bound(Play("twice", ((SEE, PUT, SEE), (PUT, PUT), (SEE, PUT)))), 2 * 3 * 5 + 1 + 2 + 3 * 5 + 1)
        self.assertEqual(bound(Play("twice", ((SEE, PUT, PUT),))), 2 + 2)
        self.assertEqual(bound(Play("twice", ((PUT, PUT),))), 2)

    def test_borrow(self):
        self.assertEqual(bound(Play("borrow", ((SEE,), (("put", 7), ("put", 8))))), 20)
        self.assertEqual(bound(Play("borrow", ((SEE, PUT), (), (PUT,)))), 3 * 12 + 2)
        self.assertEqual(bound(Play("borrow", ((), ()))), 0)
        self.assertEqual(bound(Play("borrow", ((PUT, SEE),))), 2 * 2 + 1)

    def test_other_kinds(self):
        self.assertEqual(bound(Play("levels", (7, 8, 9))), 36)
        self.assertEqual(bound(Play("levels", (7,))), 2)
        self.assertEqual(bound(Play("near", (6, (1, 2, 3)))), 36)
        self.assertEqual(bound(Play("near", (1, (5,)))), 2)
        self.assertEqual(bound(Play("chain", ((1,), (2,), ()))), 6)
        self.assertIsNone(bound(Play("names", (30, 10))))

    def test_no_weaving_has_more_steps(self):
        scripts = ((SEE, PUT, SEE), (PUT, SEE, ("put", 2)), (PUT, PUT))
        plays = [Play(kind, scripts) for kind in ("sweep", "twice", "borrow")]
        for play in plays + [Play("levels", (1, 2, 3)), Play("near", (2, (1, 2))), Play("chain", ((1,), (2,)))]:
            for seed in range(40):
                self.assertLessEqual(len(mixed_weaving(play, seed)), bound(play))

    def test_where_the_bound_is_reached(self):
        for play in (EXAMPLE, Play("near", (2, (1, 2))), Play("chain", ((1,), (2,))), Play("levels", (7,))):
            self.assertEqual(len(run_out(play, ())), bound(play))


class FactsTest(unittest.TestCase):
    plays = [
        ((SEE, SEE), (PUT, ("put", 2), ("put", 3)), (("put", 4), SEE, ("put", 5))),
        ((SEE, ("put", 9), SEE), (PUT, SEE), (("put", 4), ("put", 6), ("put", 5)), (SEE,)),
        ((SEE,), (PUT, PUT, PUT, PUT, PUT, PUT)),
    ]

    def each(self, kind):
        for scripts in self.plays:
            play = Play(kind, scripts)
            for seed in range(40):
                weaving = mixed_weaving(play, seed)
                yield play, weaving, looks(play, weaving)

    def test_no_moment_is_none(self):
        for kind in ("twice", "borrow"):
            for play, weaving, _ in self.each(kind):
                self.assertNotIn(None, moments(play, weaving))

    def test_in_sweep_some_moment_is_none(self):
        self.assertTrue(any(None in moments(play, weaving) for play, weaving, _ in self.each("sweep")))

    def test_pictures_are_a_chain_and_keep_what_ended_ahead(self):
        for kind in ("twice", "borrow"):
            for _, _, found in self.each(kind):
                for one in found:
                    for other in found:
                        pairs = [(a, b) for (a, _), (b, _) in zip(one[4], other[4])]
                        less = all(a <= b for a, b in pairs)
                        self.assertTrue(less or all(a >= b for a, b in pairs))
                        self.assertTrue(less or one[3] > other[2])

    def test_sweeps_in_borrow(self):
        most = {}
        for play, weaving, _ in self.each("borrow"):
            many = many_hands(play)
            most[many] = max([most.get(many, 0), *sweeps(play, weaving)])
        self.assertTrue(all(many + 1 >= most[many] > 2 for many in most), most)

    def test_sweeps_in_twice(self):
        for play, weaving, found in self.each("twice"):
            for (hand, *_), many in zip(found, sweeps(play, weaving)):
                puts = [deed for other, script in enumerate(play.inputs) if other != hand for deed in script]
                self.assertTrue(2 <= many <= len([deed for deed in puts if deed != SEE]) + 2)

    def test_a_look_has_as_many_looks_at_cells_as_its_sweeps_say(self):
        for kind in ("sweep", "twice", "borrow"):
            for play, weaving, found in self.each(kind):
                words = events(play, weaving)
                for (hand, _, begin, end, _), many in zip(found, sweeps(play, weaving)):
                    own = [event for event in words[begin:end] if event[:2] == (hand, "look")]
                    self.assertEqual(len(own), many * many_hands(play))
                    self.assertEqual((own[0], words[end - 1]), (words[begin], own[-1]))

    def test_whoever_stops_a_look_ends_within_its_hands_own_steps(self):
        play = Play("borrow", self.plays[0])
        standing = first_standing(play)
        while can_step(play, standing):
            alone, many = standing, 0
            while alone[1][0] is not None:
                alone, many = step(play, alone, 0), many + 1
            self.assertLessEqual(many, 2 * 3 * 4)
            standing = step(play, standing, can_step(play, standing)[-1])


if __name__ == "__main__":
    unittest.main()
