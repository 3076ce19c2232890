"""Whole runs in the manners, step by step, against standings written out by hand."""

import unittest

from onepicture.plays import Play
from onepicture.runs import first_standing, next_step, run, run_out
from tests.walks import WalkTest

SEE = ("see",)
PUT = ("put",)
N = None
Z = (0, 0, None)
AT_FIRST = (0, None, None, (), None)
SECOND = (1, None, None, (), None)
THIRD = (2, None, None, (), None)


def look(cell):
    return ("look", cell)


class SweepTest(WalkTest):
    def test_a_look_that_sees_what_never_stood_together(self):
        play = Play("sweep", ((SEE,), (("put", 5),), (("put", 6),)))
        none = ((), (), ())
        self.check_walk(play, ((Z, Z, Z), (AT_FIRST, AT_FIRST, AT_FIRST), none), [
            (0, look(0), (Z, Z, Z), ((0, N, N, (Z,), N), AT_FIRST, AT_FIRST), none),
            (0, look(1), (Z, Z, Z), ((0, N, N, (Z, Z), N), AT_FIRST, AT_FIRST), none),
            (1, PUT, (Z, (1, 5, N), Z), ((0, N, N, (Z, Z), N), N, AT_FIRST), none),
            (2, PUT, (Z, (1, 5, N), (1, 6, N)), ((0, N, N, (Z, Z), N), N, N), none),
            (0, look(2), (Z, (1, 5, N), (1, 6, N)), (N, N, N), ((((0, 0), (0, 0), (1, 6)),), (), ())),
        ])

    def test_several_deeds(self):
        play = Play("sweep", ((("put", 3), SEE), (SEE, ("put", 4), ("put", 0))))
        a, b, c = (1, 3, N), (1, 4, N), (2, 0, N)
        seen, last = ((0, 0), (0, 0)), ((1, 3), (2, 0))
        self.check_walk(play, ((Z, Z), (AT_FIRST, AT_FIRST), ((), ())), [
            (1, look(0), (Z, Z), (AT_FIRST, (0, N, N, (Z,), N)), ((), ())),
            (0, PUT, (a, Z), (SECOND, (0, N, N, (Z,), N)), ((), ())),
            (1, look(1), (a, Z), (SECOND, SECOND), ((), (seen,))),
            (1, PUT, (a, b), (SECOND, THIRD), ((), (seen,))),
            (0, look(0), (a, b), ((1, N, N, (a,), N), THIRD), ((), (seen,))),
            (1, PUT, (a, c), ((1, N, N, (a,), N), N), ((), (seen,))),
            (0, look(1), (a, c), (N, N), ((last,), (seen,))),
        ])

    def test_one_hand_looks_at_its_own_cell_alone(self):
        play = Play("sweep", ((SEE, ("put", 999), SEE),))
        self.check_walk(play, ((Z,), (AT_FIRST,), ((),)), [
            (0, look(0), (Z,), (SECOND,), ((((0, 0),),),)),
            (0, PUT, ((1, 999, N),), (THIRD,), ((((0, 0),),),)),
            (0, look(0), ((1, 999, N),), (N,), ((((0, 0),), ((1, 999),)),)),
        ])

    def test_scripts_of_none_and_of_six_deeds(self):
        play = Play("sweep", ((), (("put", 1), ("put", 2), ("put", 3), ("put", 4), ("put", 5), SEE), ()))
        self.assertEqual(first_standing(play), ((Z, Z, Z), (N, AT_FIRST, N), ((), (), ())))
        self.assertEqual(run_out(play, ()), (1,) * 8)
        self.assertEqual(run(play, (1,) * 5)[1], (N, (5, N, N, (), N), N))
        self.assertEqual(run(play, (1,) * 8), ((Z, (5, 5, N), Z), (N, N, N), ((), (((0, 0), (5, 5), (0, 0)),), ())))


class TwiceTest(WalkTest):
    def test_a_look_of_four_sweeps(self):
        # Its last cell is put twice behind the first sweep, and "twice" does not borrow for it.
        play = Play("twice", ((SEE,), (("put", 5), ("put", 6))))
        a, b = (1, 5, N), (2, 6, N)
        self.check_walk(play, ((Z, Z), (AT_FIRST, AT_FIRST), ((), ())), [
            (0, look(0), (Z, Z), ((0, N, N, (Z,), N), AT_FIRST), ((), ())),
            (0, look(1), (Z, Z), ((0, (0, 0), (0, 0), (), N), AT_FIRST), ((), ())),
            (0, look(0), (Z, Z), ((0, (0, 0), (0, 0), (Z,), N), AT_FIRST), ((), ())),
            (1, PUT, (Z, a), ((0, (0, 0), (0, 0), (Z,), N), SECOND), ((), ())),
            (0, look(1), (Z, a), ((0, (0, 0), (0, 1), (), N), SECOND), ((), ())),
            (1, PUT, (Z, b), ((0, (0, 0), (0, 1), (), N), N), ((), ())),
            (0, look(0), (Z, b), ((0, (0, 0), (0, 1), (Z,), N), N), ((), ())),
            (0, look(1), (Z, b), ((0, (0, 0), (0, 2), (), N), N), ((), ())),
            (0, look(0), (Z, b), ((0, (0, 0), (0, 2), (Z,), N), N), ((), ())),
            (0, look(1), (Z, b), (N, N), ((((0, 0), (2, 6)),), ())),
        ])

    def test_one_hand(self):
        play = Play("twice", ((SEE, ("put", 1), SEE),))
        a = (1, 1, N)
        told = ((((0, 0),),),)
        self.check_walk(play, ((Z,), (AT_FIRST,), ((),)), [
            (0, look(0), (Z,), ((0, (0,), (0,), (), N),), ((),)),
            (0, look(0), (Z,), (SECOND,), told),
            (0, PUT, (a,), (THIRD,), told),
            (0, look(0), (a,), ((2, (1,), (1,), (), N),), told),
            (0, look(0), (a,), (N,), ((((0, 0),), ((1, 1),)),)),
        ])

    def test_a_put_is_one_step_and_keeps_no_picture(self):
        play = Play("twice", ((("put", 7),), (SEE,)))
        self.assertEqual(next_step(play, first_standing(play), 0), PUT)
        self.assertEqual(run(play, (0,))[0], ((1, 7, N), Z))

    def test_values_alike_are_not_numbers_alike(self):
        play = Play("twice", ((SEE,), (("put", 0), ("put", 0))))
        state = run(play, (0, 0, 1, 0, 0))[1][0]
        self.assertEqual(state, (0, (0, 0), (0, 1), (), N))


class BorrowTest(WalkTest):
    def test_a_look_that_ends_by_the_picture_of_another(self):
        # Hand 0 comes to its third sweep; the put that it was passed by twice has the picture.
        play = Play("borrow", ((SEE,), (("put", 7), ("put", 8))))
        a, b = ((0, 0), (0, 0)), ((0, 0), (1, 7))
        put_a, put_b = (1, 7, a), (2, 8, b)
        one = (0, (0, 0), (0, 0), (), N)
        two, two_half = (0, (0, 0), (0, 1), (), N), (0, (0, 0), (0, 1), (Z,), N)
        self.check_walk(play, ((Z, Z), (AT_FIRST, AT_FIRST), ((), ())), [
            (0, look(0), (Z, Z), ((0, N, N, (Z,), N), AT_FIRST), ((), ())),
            (0, look(1), (Z, Z), (one, AT_FIRST), ((), ())),
            (1, look(0), (Z, Z), (one, (0, N, N, (Z,), N)), ((), ())),
            (1, look(1), (Z, Z), (one, (0, (0, 0), (0, 0), (), N)), ((), ())),
            (1, look(0), (Z, Z), (one, (0, (0, 0), (0, 0), (Z,), N)), ((), ())),
            (1, look(1), (Z, Z), (one, (0, N, N, (), a)), ((), ())),
            (1, PUT, (Z, put_a), (one, SECOND), ((), ())),
            (0, look(0), (Z, put_a), ((0, (0, 0), (0, 0), (Z,), N), SECOND), ((), ())),
            (0, look(1), (Z, put_a), (two, SECOND), ((), ())),
            (1, look(0), (Z, put_a), (two, (1, N, N, (Z,), N)), ((), ())),
            (1, look(1), (Z, put_a), (two, (1, (0, 1), (0, 1), (), N)), ((), ())),
            (0, look(0), (Z, put_a), (two_half, (1, (0, 1), (0, 1), (), N)), ((), ())),
            (1, look(0), (Z, put_a), (two_half, (1, (0, 1), (0, 1), (Z,), N)), ((), ())),
            (1, look(1), (Z, put_a), (two_half, (1, N, N, (), b)), ((), ())),
            (1, PUT, (Z, put_b), (two_half, N), ((), ())),
            (0, look(1), (Z, put_b), (N, N), ((b,), ())),
        ])

    def test_a_look_that_ends_as_in_twice(self):
        play = Play("borrow", ((SEE, ("put", 4)), ()))
        a, b = (0, (0, 0), (0, 0), (), N), ((0, 0), (0, 0))
        again = (1, (0, 0), (0, 0), (), N)
        self.check_walk(play, ((Z, Z), (AT_FIRST, N), ((), ())), [
            (0, look(0), (Z, Z), ((0, N, N, (Z,), N), N), ((), ())),
            (0, look(1), (Z, Z), (a, N), ((), ())),
            (0, look(0), (Z, Z), ((0, (0, 0), (0, 0), (Z,), N), N), ((), ())),
            (0, look(1), (Z, Z), (SECOND, N), ((b,), ())),
            (0, look(0), (Z, Z), ((1, N, N, (Z,), N), N), ((b,), ())),
            (0, look(1), (Z, Z), (again, N), ((b,), ())),
            (0, look(0), (Z, Z), ((1, (0, 0), (0, 0), (Z,), N), N), ((b,), ())),
            (0, look(1), (Z, Z), ((1, N, N, (), b), N), ((b,), ())),
            (0, PUT, ((1, 4, b), Z), (N, N), ((b,), ())),
        ])

    def test_the_least_of_several_hands_lends_and_the_picture_is_put(self):
        play = Play("borrow", ((("put", 1),), (("put", 2), ("put", 3)), (("put", 4), ("put", 5))))
        weaving = (0, 0, 0) + (2,) * 14 + (1,) * 14 + (0, 0, 0)
        cells, states, told = run(play, weaving)
        lent = ((0, 0), (1, 2), (2, 5))
        self.assertEqual(cells, (Z, (2, 3, lent), (2, 5, ((0, 0), (0, 0), (1, 4)))))
        self.assertEqual(states, ((0, N, N, (), lent), N, N))
        self.assertEqual(told, ((), (), ()))
        self.assertEqual(run(play, weaving + (0,))[0][0], (1, 1, lent))
        self.assertEqual(run_out(play, weaving), weaving + (0,))

    def test_the_picture_is_lent_as_the_sweep_saw_it(self):
        # Behind the look at cell 1 hand 1 puts once more: the sweep has its cell of before.
        play = Play("borrow", ((SEE,), (("put", 1), ("put", 2), ("put", 3)), ()))
        weaving = (0, 0, 0) + (1,) * 14 + (0, 0) + (1,) * 7 + (0,)
        self.assertEqual(run(play, weaving)[2], ((((0, 0), (1, 1), (0, 0)),), (), ()))

    def test_one_hand(self):
        play = Play("borrow", ((("put", 6),),))
        a = ((0, 0),)
        self.check_walk(play, ((Z,), (AT_FIRST,), ((),)), [
            (0, look(0), (Z,), ((0, (0,), (0,), (), N),), ((),)),
            (0, look(0), (Z,), ((0, N, N, (), a),), ((),)),
            (0, PUT, ((1, 6, a),), (N,), ((),)),
        ])


if __name__ == "__main__":
    unittest.main()
