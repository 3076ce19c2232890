"""Who can do a step, which weavings there are, and what comes of wrong ones."""

import unittest

from onepicture.errors import NoHand, NoStep, NoWeaving
from onepicture.plays import Play, many_hands
from onepicture.runs import can_step, events, first_standing, next_step, run, run_out, step
from tests.samples import strange_things

SEE = ("see",)
PLAYS = [
    Play("sweep", ((SEE, ("put", 1)), (("put", 2),))),
    Play("twice", ((SEE, ("put", 1)), (("put", 2),))),
    Play("borrow", ((SEE, ("put", 1)), (("put", 2),))),
    Play("levels", (7, 8)),
    Play("names", (30, 10)),
    Play("near", (2, (0, 10))),
    Play("chain", ((1,), (2,))),
]
FIVE = Play("chain", ((1,), (2,), (3,), (4,), (5,)))
ALL_OVER = Play("borrow", ((), ()))


def no_hands(play):
    """Things that are no hands, some of which Python holds for equal to one."""
    many = many_hands(play)
    return [thing for thing in strange_things() if not (type(thing) is int and 0 <= thing < many)] + [
        many, -1, True, False, 0.0, 1.0, (0,), [0], "1", b"\x00",
    ]


class FirstStandingTest(unittest.TestCase):
    def test_of_each_kind(self):
        manner = (((0, 0, None),) * 2, ((0, None, None, (), None),) * 2, ((), ()))
        nothing = (None, None)
        self.assertEqual([first_standing(play) for play in PLAYS], [
            manner, manner, manner,
            (nothing, ((3, None), (3, None)), ((), ())),
            (nothing, ((1, False), (1, False)), ((), ())),
            (((), ()), ((0, 0, False), (0, 10, False)), ((), ())),
            (nothing, ((False,), (False,)), ((), ())),
        ])

    def test_hands_without_deeds_are_over(self):
        for kind in ("sweep", "twice", "borrow"):
            standing = first_standing(Play(kind, ((), (SEE,), ())))
            self.assertEqual(standing[1], (None, (0, None, None, (), None), None))
            self.assertEqual(can_step(Play(kind, ((), (SEE,), ())), standing), (1,))

    def test_of_one_hand_and_of_five(self):
        self.assertEqual(first_standing(Play("chain", ((),))), ((None,), ((False,),), ((),)))
        self.assertEqual(first_standing(FIVE), ((None,) * 5, ((False,),) * 5, ((),) * 5))


class StepTest(unittest.TestCase):
    def test_can_step_is_the_lot_of_those_not_over(self):
        self.assertEqual(can_step(FIVE, first_standing(FIVE)), (0, 1, 2, 3, 4))
        self.assertEqual(can_step(FIVE, run(FIVE, (3, 3, 0, 0, 1))), (1, 2, 4))
        self.assertEqual(can_step(ALL_OVER, first_standing(ALL_OVER)), ())
        for play in PLAYS:
            self.assertEqual(can_step(play, run(play, run_out(play, ()))), ())

    def test_no_hand(self):
        for play in PLAYS + [FIVE, ALL_OVER]:
            standing = first_standing(play)
            for thing in no_hands(play):
                with self.subTest(play.kind, thing=repr(thing)):
                    with self.assertRaises(NoHand):
                        step(play, standing, thing)
                    with self.assertRaises(NoHand):
                        next_step(play, standing, thing)

    def test_no_hand_comes_ahead_of_no_step(self):
        for play in PLAYS:
            standing = run(play, run_out(play, ()))
            for thing in no_hands(play):
                with self.subTest(play.kind, thing=repr(thing)), self.assertRaises(NoHand):
                    step(play, standing, thing)

    def test_no_step_of_a_hand_that_is_over(self):
        for play in PLAYS:
            standing = run(play, run_out(play, ()))
            kept = repr(standing)
            for hand in (0, 1):
                with self.subTest(play.kind, hand=hand):
                    with self.assertRaises(NoStep):
                        step(play, standing, hand)
                    with self.assertRaises(NoStep):
                        next_step(play, standing, hand)
            self.assertEqual(repr(standing), kept)

    def test_only_who_is_over_does_no_step(self):
        standing = run(FIVE, (4, 4, 0, 0))
        for hand in (0, 4):
            self.assertRaises(NoStep, step, FIVE, standing, hand)
            self.assertRaises(NoStep, next_step, FIVE, standing, hand)
        for hand in (1, 2, 3):
            self.assertEqual(next_step(FIVE, standing, hand), ("put",))
            self.assertEqual(step(FIVE, standing, hand)[0][hand], (hand + 1,))

    def test_a_step_changes_the_hands_own_place_alone(self):
        for play in PLAYS:
            standing = first_standing(play)
            while can_step(play, standing):
                for hand in can_step(play, standing):
                    behind = step(play, standing, hand)
                    for part in range(3):
                        self.assertEqual(behind[part][1 - hand], standing[part][1 - hand])
                    if next_step(play, standing, hand) != ("put",):
                        self.assertEqual(behind[0], standing[0])
                standing = behind


class WeavingTest(unittest.TestCase):
    def refuse(self, index, play, weaving):
        for asked in (run, events, run_out):
            with self.subTest(asked.__name__, kind=play.kind, weaving=repr(weaving)[:80]):
                with self.assertRaises(NoWeaving) as caught:
                    asked(play, weaving)
                self.assertEqual(caught.exception.index, index)
                self.assertIs(type(caught.exception.index), int)

    def test_no_list_or_tuple(self):
        for play in PLAYS + [ALL_OVER]:
            for thing in strange_things() + ["", "01", b"\x00\x01", range(2), {}, {0: 1}, 0, 1.0]:
                if not isinstance(thing, (list, tuple)):
                    self.refuse(-1, play, thing)

    def test_the_first_that_is_no_hand(self):
        for play in PLAYS:
            for thing in no_hands(play):
                self.refuse(0, play, [thing])
                self.refuse(0, play, (thing, 0, thing))
                self.refuse(1, play, (1, thing))
                self.refuse(2, play, [0, 1, thing, 1, thing])

    def test_hands_at_the_bounds(self):
        self.assertEqual(len(events(FIVE, (0, 4, 4, 0))), 4)
        for hand in (-1, 5, 6, True, False):
            self.refuse(2, FIVE, (0, 4, hand))

    def test_the_first_that_is_over_then(self):
        one = Play("chain", ((1,), (2,)))
        self.refuse(2, one, (0, 0, 0))
        self.refuse(3, one, [0, 1, 0, 0, 1, 1])
        self.refuse(4, one, [0, 1, 0, 1, 0])
        self.refuse(0, ALL_OVER, (1,))
        self.refuse(2, one, (0,) * 20000)

    def test_the_first_wrong_one_whatever_is_wrong(self):
        play = Play("chain", ((1,), (2,)))
        self.refuse(2, play, (0, 0, 0, 7))
        self.refuse(1, play, (0, None, 0, 0))
        self.refuse(3, play, (0, 1, 0, [0], 0))

    def test_a_hand_may_be_over_behind_others(self):
        play = Play("sweep", ((), (("put", 1),)))
        self.assertEqual(run(play, (1,))[0], ((0, 0, None), (1, 1, None)))
        self.refuse(1, play, (1, 0))
        self.refuse(1, play, (1, 1))

    def test_lists_and_tuples_tell_the_same_and_stay_as_they_were(self):
        for play in PLAYS:
            whole = run_out(play, ())
            for many in range(len(whole) + 1):
                for weaving in (whole[:many], tuple(reversed([0, 1] * (many // 4)))):
                    listed = list(weaving)
                    for asked in (run, events, run_out):
                        self.assertEqual(repr(asked(play, listed)), repr(asked(play, weaving)))
                    self.assertEqual(listed, list(weaving))

    def test_a_wrong_list_stays_as_it_was(self):
        weaving = [0, 1, [0, {1: [2]}], 0]
        self.refuse(2, FIVE, weaving)
        self.assertEqual(weaving, [0, 1, [0, {1: [2]}], 0])

    def test_no_steps_at_all(self):
        for play in PLAYS + [FIVE, ALL_OVER]:
            self.assertEqual(run(play, ()), first_standing(play))
            self.assertEqual(run(play, []), first_standing(play))
            self.assertEqual(events(play, ()), ())
            self.assertEqual(events(play, []), ())


class EventsTest(unittest.TestCase):
    def test_of_each_word(self):
        play = Play("sweep", ((SEE,), (("put", 5), SEE), (("put", 6),)))
        self.assertEqual(events(play, (0, 1, 0, 1, 2, 0, 1, 1)), (
            (0, "look", 0), (1, "put", 1), (0, "look", 1), (1, "look", 0), (2, "put", 2), (0, "look", 2),
            (1, "look", 1), (1, "look", 2),
        ))

    def test_looks_ahead_of_a_put_in_borrow(self):
        play = Play("borrow", ((SEE,), (("put", 7), ("put", 8))))
        self.assertEqual(events(play, (0, 1)), ((0, "look", 0), (1, "look", 0)))
        self.assertEqual(events(play, (1,) * 6)[2:], (
            (1, "look", 0), (1, "look", 1), (1, "put", 1), (1, "look", 0),
        ))

    def test_sees_have_no_cell(self):
        self.assertEqual(events(FIVE, (4, 4, 0)), ((4, "put", 4), (4, "see", None), (0, "put", 0)))
        self.assertEqual(events(Play("names", (1, 2)), (1, 0, 1)), ((1, "put", 1), (0, "put", 0), (1, "see", None)))
        self.assertEqual(events(Play("near", (1, (1, 2))), (1, 1)), ((1, "put", 1), (1, "see", None)))

    def test_levels(self):
        self.assertEqual(events(Play("levels", (1, 2)), (1, 1, 1, 1)), (
            (1, "put", 1), (1, "look", 0), (1, "look", 1), (1, "put", 1),
        ))


class RunOutTest(unittest.TestCase):
    def test_always_the_least_hand_that_is_not_over(self):
        self.assertEqual(run_out(FIVE, ()), (0, 0, 1, 1, 2, 2, 3, 3, 4, 4))
        self.assertEqual(run_out(FIVE, (4, 2, 2, 0)), (4, 2, 2, 0, 0, 1, 1, 3, 3, 4))

    def test_hands_that_are_over_at_once(self):
        self.assertEqual(run_out(ALL_OVER, ()), ())
        self.assertEqual(run_out(ALL_OVER, []), ())
        play = Play("twice", ((), (("put", 1), ("put", 2)), (), (SEE,)))
        # The first sweep of hand 3 has both puts already, as they come behind its look at cell 0 alone.
        self.assertEqual(run_out(play, [3]), (3, 1, 1) + (3,) * 7)

    def test_a_whole_weaving_is_left_as_it_is(self):
        for play in PLAYS:
            whole = run_out(play, (1, 0))
            self.assertEqual(whole[:2], (1, 0))
            self.assertEqual(run_out(play, whole), whole)
            self.assertEqual(run_out(play, list(whole)), whole)
            self.assertEqual(run(play, whole)[1], (None, None))

    def test_the_longest_scripts_run_out(self):
        for kind, many in (("sweep", 5 * 18), ("twice", 5 * 33), ("borrow", 5 * 63)):
            script = (SEE, ("put", 1)) * 3
            play = Play(kind, (script,) * 5)
            self.assertEqual(len(run_out(play, ())), many)


if __name__ == "__main__":
    unittest.main()
