"""Whole runs in levels, step by step, against standings written out by hand."""

import unittest

from onepicture.plays import Play
from onepicture.runs import first_standing, run, run_out
from tests.walks import WalkTest

PUT = ("put",)
N = None


def look(cell):
    return ("look", cell)


class LevelsTest(WalkTest):
    def test_one_hand_goes_down_a_level_and_one_tells(self):
        play = Play("levels", (7, 8))
        both, own = ((0, 7), (1, 8)), ((0, 7),)
        self.check_walk(play, ((N, N), ((3, N), (3, N)), ((), ())), [
            (0, PUT, ((2, 7), N), ((2, ()), (3, N)), ((), ())),
            (0, look(0), ((2, 7), N), ((2, ((2, 7),)), (3, N)), ((), ())),
            (0, look(1), ((2, 7), N), ((2, N), (3, N)), ((), ())),
            (1, PUT, ((2, 7), (2, 8)), ((2, N), (2, ())), ((), ())),
            (1, look(0), ((2, 7), (2, 8)), ((2, N), (2, ((2, 7),))), ((), ())),
            (0, PUT, ((1, 7), (2, 8)), ((1, ()), (2, ((2, 7),))), ((), ())),
            (1, look(1), ((1, 7), (2, 8)), ((1, ()), N), ((), (both,))),
            (0, look(0), ((1, 7), (2, 8)), ((1, ((1, 7),)), N), ((), (both,))),
            (0, look(1), ((1, 7), (2, 8)), (N, N), ((own,), (both,))),
        ])

    def test_one_hand(self):
        play = Play("levels", (7,))
        self.check_walk(play, ((N,), ((2, N),), ((),)), [
            (0, PUT, ((1, 7),), ((1, ()),), ((),)),
            (0, look(0), ((1, 7),), (N,), ((((0, 7),),),)),
        ])

    def test_hands_one_behind_the_other(self):
        play = Play("levels", (999, 0, 5))
        weaving = (0,) * 12 + (1,) * 8 + (2,) * 4
        self.assertEqual(run_out(play, ()), weaving)
        told = ((((0, 999),),), (((0, 999), (1, 0)),), (((0, 999), (1, 0), (2, 5)),))
        self.assertEqual(run(play, weaving), (((1, 999), (2, 0), (3, 5)), (N, N, N), told))

    def test_hands_above_are_not_below(self):
        # Hand 0 is at level 1 while hand 1 is at level 3: it has itself alone.
        play = Play("levels", (4, 5, 6))
        self.assertEqual(run(play, (0,) * 9 + (1,) + (0,) * 3)[2], ((((0, 4),),), (), ()))

    def test_five_hands_at_first(self):
        play = Play("levels", (1, 1, 1, 1, 1))
        self.assertEqual(first_standing(play), ((N,) * 5, ((6, N),) * 5, ((),) * 5))
        weaving = tuple(hand for _ in range(6) for hand in range(5))
        self.assertEqual(run(play, weaving)[2], ((tuple((hand, 1) for hand in range(5)),),) * 5)


if __name__ == "__main__":
    unittest.main()
