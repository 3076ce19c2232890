"""Whole runs of names, near values and chains, step by step, against standings written out by hand."""

import unittest

from onepicture.plays import Play
from onepicture.runs import first_standing, run, run_out
from tests.walks import WalkTest

PUT = ("put",)
SEE = ("see",)
N = None


class NamesTest(WalkTest):
    def test_hands_that_must_wish_again(self):
        play = Play("names", (5, 9, 2))
        a, b, c = (5, 1), (9, 1), (2, 1)
        new = (1, False)
        self.check_walk(play, ((N, N, N), (new, new, new), ((), (), ())), [
            (0, PUT, (a, N, N), ((1, True), new, new), ((), (), ())),
            (1, PUT, (a, b, N), ((1, True), (1, True), new), ((), (), ())),
            (1, SEE, (a, b, N), ((1, True), (3, False), new), ((), (), ())),
            (2, PUT, (a, b, c), ((1, True), (3, False), (1, True)), ((), (), ())),
            (0, SEE, (a, b, c), ((3, False), (3, False), (1, True)), ((), (), ())),
            (1, PUT, (a, (9, 3), c), ((3, False), (3, True), (1, True)), ((), (), ())),
            (1, SEE, (a, (9, 3), c), ((3, False), N, (1, True)), ((), (3,), ())),
            (0, PUT, ((5, 3), (9, 3), c), ((3, True), N, (1, True)), ((), (3,), ())),
            (0, SEE, ((5, 3), (9, 3), c), ((4, False), N, (1, True)), ((), (3,), ())),
            (2, SEE, ((5, 3), (9, 3), c), ((4, False), N, N), ((), (3,), (1,))),
            (0, PUT, ((5, 4), (9, 3), c), ((4, True), N, N), ((), (3,), (1,))),
            (0, SEE, ((5, 4), (9, 3), c), (N, N, N), ((4,), (3,), (1,))),
        ])

    def test_one_hand(self):
        self.check_walk(Play("names", (999,)), ((N,), ((1, False),), ((),)), [
            (0, PUT, ((999, 1),), ((1, True),), ((),)),
            (0, SEE, ((999, 1),), (N,), ((1,),)),
        ])

    def test_the_example_of_the_document(self):
        play = Play("names", (30, 10))
        self.assertEqual(run_out(play, (0, 1, 0)), (0, 1, 0, 0, 0, 1))
        self.assertEqual(run(play, (0, 1, 0, 0, 0, 1))[2], ((3,), (1,)))

    def test_five_hands_that_all_wish_for_one(self):
        play = Play("names", (4, 3, 2, 1, 0))
        standing = run(play, (0, 1, 2, 3, 4, 0, 1, 2, 3, 4))
        self.assertEqual(standing[1], ((6, False), (5, False), (4, False), (3, False), (2, False)))
        self.assertEqual(run(play, run_out(play, (0, 1, 2, 3, 4) * 2))[2], ((6,), (5,), (4,), (3,), (2,)))

    def test_who_comes_late_gets_by_a_wish_the_least_rank(self):
        play = Play("names", (7, 3))
        weaving = (0, 0, 1, 1, 1, 1)
        self.assertEqual(run(play, (0, 0, 1, 1))[1], (N, (2, False)))
        self.assertEqual(run_out(play, ()), weaving)
        self.assertEqual(run(play, weaving), (((7, 1), (3, 2)), (N, N), ((1,), (2,))))


class NearTest(WalkTest):
    def test_two_rounds(self):
        play = Play("near", (2, (0, 10)))
        self.check_walk(play, (((), ()), ((0, 0, False), (0, 10, False)), ((), ())), [
            (0, PUT, ((0,), ()), ((0, 0, True), (0, 10, False)), ((), ())),
            (0, SEE, ((0,), ()), ((1, 0, False), (0, 10, False)), ((), ())),
            (1, PUT, ((0,), (10,)), ((1, 0, False), (0, 10, True)), ((), ())),
            (1, SEE, ((0,), (10,)), ((1, 0, False), (1, 10, False)), ((), ())),
            (1, PUT, ((0,), (10, 10)), ((1, 0, False), (1, 10, True)), ((), ())),
            (1, SEE, ((0,), (10, 10)), ((1, 0, False), N), ((), ((20, 2),))),
            (0, PUT, ((0, 0), (10, 10)), ((1, 0, True), N), ((), ((20, 2),))),
            (0, SEE, ((0, 0), (10, 10)), (N, N), (((10, 2),), ((20, 2),))),
        ])

    def test_one_hand_six_rounds(self):
        play = Play("near", (6, (-1000,)))
        self.assertEqual(first_standing(play), (((),), ((0, -1000, False),), ((),)))
        tops = (-1000, -2000, -4000, -8000, -16000, -32000)
        self.assertEqual(run_out(play, ()), (0,) * 12)
        self.assertEqual(run(play, (0,) * 11), ((tops,), ((5, -32000, True),), ((),)))
        self.assertEqual(run(play, (0,) * 12), ((tops,), (N,), (((-64000, 6),),)))

    def test_the_least_and_the_greatest_of_a_round_alone_count(self):
        play = Play("near", (1, (0, 3, -10)))
        self.assertEqual(run(play, (0, 1, 2, 0, 1, 2))[2], (((-7, 1),), ((-7, 1),), ((-7, 1),)))
        self.assertEqual(run(play, (0, 0, 1, 1, 2, 2))[2], (((0, 1),), ((3, 1),), ((-7, 1),)))

    def test_tops_of_elder_rounds_do_not_count(self):
        play = Play("near", (2, (1000, 4, 6)))
        weaving = (0, 1, 2, 1, 2, 1, 1)
        self.assertEqual(run(play, weaving)[0], ((1000,), (4, 1004), (6,)))
        self.assertEqual(run(play, weaving)[2], ((), ((2008, 2),), ()))

    def test_the_example_of_the_document(self):
        self.assertEqual(run(Play("near", (1, (0, 10))), (0, 0, 1, 1))[2], (((0, 1),), ((10, 1),)))


class ChainTest(WalkTest):
    def test_lots_grow(self):
        play = Play("chain", ((1, 5), (), (0, 5)))
        new, is_put = (False,), (True,)
        self.check_walk(play, ((N, N, N), (new, new, new), ((), (), ())), [
            (1, PUT, (N, (), N), (new, is_put, new), ((), (), ())),
            (1, SEE, (N, (), N), (new, N, new), ((), ((),), ())),
            (0, PUT, ((1, 5), (), N), (is_put, N, new), ((), ((),), ())),
            (0, SEE, ((1, 5), (), N), (N, N, new), (((1, 5),), ((),), ())),
            (2, PUT, ((1, 5), (), (0, 5)), (N, N, is_put), (((1, 5),), ((),), ())),
            (2, SEE, ((1, 5), (), (0, 5)), (N, N, N), (((1, 5),), ((),), ((0, 1, 5),))),
        ])

    def test_one_hand_with_each_number(self):
        every = tuple(range(20))
        self.check_walk(Play("chain", (every,)), ((N,), ((False,),), ((),)), [
            (0, PUT, (every,), ((True,),), ((),)),
            (0, SEE, (every,), (N,), ((every,),)),
        ])

    def test_all_put_ahead_of_all_sees(self):
        play = Play("chain", ((19,), (3, 7), (0,), (), (7, 8)))
        told = ((0, 3, 7, 8, 19),)
        self.assertEqual(run(play, (4, 3, 2, 1, 0, 0, 1, 2, 3, 4))[2], (told,) * 5)

    def test_what_is_told_is_ascending(self):
        play = Play("chain", ((1, 16), (8, 9), (0, 17)))
        self.assertEqual(run(play, (0, 1, 1))[2], ((), ((1, 8, 9, 16),), ()))
        self.assertEqual(run(play, (2, 1, 0, 0))[2], (((0, 1, 8, 9, 16, 17),), (), ()))


if __name__ == "__main__":
    unittest.main()
