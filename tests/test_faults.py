"""What is wrong with what hands told, word by word, and what is told by no form (4.4)."""

import unittest

from onepicture.errors import NoCame, NoTold
from onepicture.faults import fault
from onepicture.plays import MANNERS, Play
from onepicture.runs import run
from tests.samples import strange_things
from tests.test_facts import all_standings, mixed_weaving

SEE = ("see",)
PUT = ("put", 1)
NAMES = Play("names", (30, 10, 20))
NEAR = Play("near", (2, (0, 10, -6)))
CHAIN = Play("chain", ((1, 2), (), (2, 7)))
LEVELS = Play("levels", (7, 8, 9))
MANNER_PLAYS = [Play(kind, ((SEE, SEE, PUT), (PUT, SEE), (PUT, PUT))) for kind in MANNERS]
ALL = [NAMES, NEAR, CHAIN, LEVELS] + MANNER_PLAYS
NOTHING = ((), (), ())


class FaultCase(unittest.TestCase):
    def check(self, word, play, came, told):
        kept = repr((came, told))
        with self.subTest(play.kind, came=came, told=told):
            found = fault(play, came, told)
            self.assertEqual(found, word)
            self.assertEqual(repr((came, told)), kept)


class AnyKindTest(FaultCase):
    def test_the_example(self):
        self.check("alike", Play("names", (30, 10)), (0, 1), ((1,), (1,)))
        self.check(None, Play("names", (30, 10)), (0, 1), ((3,), (1,)))

    def test_nothing_told(self):
        for play in ALL:
            for came in ((), (0,), (1, 2), (0, 1, 2)):
                self.check(None, play, came, NOTHING)

    def test_came_of_each_kind(self):
        told = {"names": 1, "near": (0, 2), "chain": (1, 2), "levels": ((0, 7),)}
        for play in ALL:
            one = told.get(play.kind, ((0, 0), (0, 0), (0, 0)))
            self.check(None, play, (0,), ((one,), (), ()))
            self.check("came", play, (), ((one,), (), ()))
            self.check("came", play, (1, 2), ((one,), (), ()))


class MannersTest(FaultCase):
    def pictures(self, *rows):
        """A tuple of pictures with these numbers, and some value each."""
        return tuple(tuple((number, 5) for number in row) for row in rows)

    def check_each(self, word, came, told):
        for play in MANNER_PLAYS:
            self.check(word, play, came, told)

    def test_none(self):
        self.check_each(None, (0, 1, 2), (self.pictures((0, 0, 1), (1, 1, 1)), self.pictures((0, 1, 1)), ()))
        self.check_each(None, (0, 1), (self.pictures((5, 0, 0), (5, 0, 0)), self.pictures((0, 0, 0)), ()))
        self.check_each(None, (0, 1), ((((0, 999), (0, 0), (0, 3)),), (), ()))

    def test_came_of_a_hand_that_tells(self):
        self.check_each("came", (0,), ((), self.pictures((0, 0, 0)), ()))

    def test_came_of_a_hand_that_a_picture_has_a_number_of(self):
        self.check_each("came", (0, 1), (self.pictures((0, 0, 1)), (), ()))
        self.check_each("came", (0, 1), (self.pictures((0, 0, 0), (1, 1, 9)), (), ()))
        self.check_each("came", (1, 2), ((), self.pictures((1, 0, 0)), ()))

    def test_values_of_a_hand_that_has_not_come_are_nothing(self):
        self.check_each(None, (0,), ((((0, 0), (0, 7), (0, 9)),), (), ()))

    def test_chain(self):
        self.check_each("chain", (0, 1, 2), (self.pictures((0, 1, 0)), self.pictures((0, 0, 1)), ()))
        self.check_each("chain", (0, 1, 2), (self.pictures((0, 1, 0), (0, 0, 1)), (), ()))
        self.check_each("chain", (0, 1, 2), (self.pictures((0, 0, 0), (2, 1, 0)), self.pictures((1, 2, 0)), ()))

    def test_equal_numbers_with_other_values_are_no_fault(self):
        self.check_each(None, (0, 1, 2), ((((1, 3), (0, 0), (0, 0)),), (((1, 4), (0, 0), (0, 0)),), ()))

    def test_back(self):
        self.check_each("back", (0, 1, 2), (self.pictures((0, 1, 0), (0, 0, 0)), (), ()))
        self.check_each("back", (0, 1, 2), (self.pictures((2, 1, 3), (2, 1, 2)), (), ()))
        self.check_each(None, (0, 1, 2), (self.pictures((2, 1, 3)), self.pictures((2, 1, 2)), ()))
        play = Play("borrow", ((SEE, SEE, SEE), ()))
        self.check("back", play, (0, 1), (self.pictures((0, 1), (0, 2), (0, 1)), ()))
        self.check(None, play, (0, 1), (self.pictures((0, 1), (0, 1), (0, 2)), ()))

    def test_two_that_fit_at_once(self):
        # "chain" and "back", "came" and "chain", "came" and "back".
        self.check_each("chain", (0, 1, 2), (self.pictures((0, 1, 1), (0, 0, 1)), self.pictures((1, 0, 0)), ()))
        self.check_each("came", (0, 1), (self.pictures((0, 1, 0), (0, 0, 1)), (), ()))
        self.check_each("came", (0, 1), (self.pictures((0, 0, 1), (0, 0, 0)), (), ()))
        self.check_each("came", (0, 2), (self.pictures((0, 0, 0)), self.pictures((0, 0, 0)), ()))

    def test_what_is_told_by_runs_has_none_but_in_sweep(self):
        for play in MANNER_PLAYS:
            words = {}
            for seed in range(300):
                weaving = mixed_weaving(play, seed)
                for many in range(len(weaving) + 1):
                    if many == len(weaving) or seed < 5:
                        word = fault(play, tuple(sorted(set(weaving[:many]))), run(play, weaving[:many])[2])
                        words[word] = True
            if play.kind != "sweep":
                self.assertEqual(words, {None: True})

    def test_in_sweep_pictures_may_be_no_chain(self):
        # Hand 0 looks at cell 1 ahead of the put there, hand 3 at cell 2 ahead of that there: each misses one.
        play = Play("sweep", ((SEE,), (PUT,), (PUT,), (SEE,)))
        told = run(play, (0, 0, 1, 3, 3, 3, 2, 0, 0, 3))[2]
        self.assertEqual(told[0] + told[3], (((0, 0), (0, 0), (1, 1), (0, 0)), ((0, 0), (1, 1), (0, 0), (0, 0))))
        self.check("chain", play, (0, 1, 2, 3), told)


class LevelsTest(FaultCase):
    def test_none(self):
        self.check(None, LEVELS, (0, 1, 2), ((((0, 7), (1, 8), (2, 9)),), (((1, 8), (2, 9)),), ()))
        self.check(None, LEVELS, (0, 1), ((((0, 7), (1, 8)),), (((0, 7), (1, 8)),), ()))

    def test_own(self):
        self.check("own", LEVELS, (0, 1, 2), ((((1, 8),),), (), ()))
        self.check("own", LEVELS, (0, 1, 2), (((),), (), ()))
        self.check("own", LEVELS, (0, 1, 2), ((((0, 7),),), ((),), ()))

    def test_value(self):
        self.check("value", LEVELS, (0, 1, 2), ((((0, 8),),), (), ()))
        self.check("value", LEVELS, (0, 1, 2), ((((0, 7), (1, 7)),), (), ()))
        self.check("value", LEVELS, (0, 2), ((((0, 7), (1, 8)),), (), ()))

    def test_chain(self):
        self.check("chain", LEVELS, (0, 1, 2), ((((0, 7), (1, 8)),), (), (((1, 8), (2, 9)),)))
        self.check("chain", LEVELS, (0, 1, 2), ((((0, 7),),), (((1, 8),),), ()))

    def test_inner(self):
        self.check("inner", LEVELS, (0, 1, 2), ((((0, 7), (1, 8)),), (((0, 7), (1, 8), (2, 9)),), ()))
        self.check(None, LEVELS, (0, 1, 2), ((((0, 7), (1, 8)),), (), (((0, 7), (1, 8), (2, 9)),)))

    def test_two_that_fit_at_once(self):
        self.check("own", LEVELS, (0, 1, 2), ((((1, 9),),), (), ()))
        self.check("own", LEVELS, (0, 1, 2), ((((1, 8),),), (((0, 7), (2, 9)),), ()))
        self.check("value", LEVELS, (0, 1, 2), ((((0, 8),),), (((1, 8),),), ()))
        self.check("value", LEVELS, (0, 1), ((((0, 7), (1, 8)),), (((0, 7), (1, 8), (2, 9)),), ()))
        told = ((((0, 7), (1, 8)),), (((0, 7), (1, 8), (2, 9)),), (((2, 9),),))
        self.check("chain", LEVELS, (0, 1, 2), told)
        self.check("came", LEVELS, (0,), ((), ((),), ()))


class NamesTest(FaultCase):
    def test_none(self):
        self.check(None, NAMES, (0, 1, 2), ((5,), (1,), (2,)))
        self.check(None, NAMES, (1, 2), ((), (3,), (2,)))
        self.check(None, NAMES, (1,), ((), (1,), ()))

    def test_alike(self):
        self.check("alike", NAMES, (0, 1, 2), ((2,), (1,), (2,)))

    def test_great(self):
        self.check("great", NAMES, (0, 1, 2), ((6,), (1,), (2,)))
        self.check("great", NAMES, (0, 1), ((4,), (), ()))
        self.check("great", NAMES, (0,), ((2,), (), ()))
        self.check("great", NAMES, (0,), ((10 ** 30,), (), ()))

    def test_two_that_fit_at_once(self):
        self.check("alike", NAMES, (0, 1), ((4,), (4,), ()))
        self.check("came", NAMES, (0, 1), ((4,), (), (4,)))


class NearTest(FaultCase):
    def test_none(self):
        self.check(None, NEAR, (0, 1), (((0, 2),), ((10, 2),), ()))
        self.check(None, NEAR, (0, 1), (((30, 2),), ((40, 2),), ()))
        self.check(None, NEAR, (0, 1, 2), (((-24, 2),), ((-8, 2),), ((-20, 2),)))

    def test_out(self):
        self.check("out", NEAR, (0, 1), (((-1, 2),), (), ()))
        self.check("out", NEAR, (0, 1), (((41, 2),), (), ()))
        self.check("out", NEAR, (0, 2), (((1, 2),), (), ()))
        self.check("out", NEAR, (0, 1, 2), (((-25, 2),), (), ()))
        self.check("out", NEAR, (0,), (((10 ** 40, 2),), (), ()))

    def test_far(self):
        self.check("far", NEAR, (0, 1), (((0, 2),), ((11, 2),), ()))
        self.check("far", NEAR, (0, 1, 2), (((0, 2),), ((9, 2),), ((-8, 2),)))
        self.check(None, NEAR, (0, 1, 2), (((0, 2),), ((8, 2),), ((-8, 2),)))

    def test_two_that_fit_at_once(self):
        self.check("out", NEAR, (0, 1), (((-1, 2),), ((30, 2),), ()))
        self.check("came", NEAR, (0, 1), (((-1, 2),), (), ((30, 2),)))

    def test_all_rounds(self):
        for rounds in range(1, 7):
            play = Play("near", (rounds, (-1000, 1000)))
            self.check(None, play, (0, 1), (((1000 << rounds, rounds),), ((0 - (-1000 << rounds), rounds),)))
            self.check("out", play, (0, 1), ((((1000 << rounds) + 1, rounds),), ()))
            self.check("far", play, (0, 1), (((1000, rounds),), ((-1001, rounds),)))


class ChainTest(FaultCase):
    def test_none(self):
        self.check(None, CHAIN, (0, 1, 2), (((1, 2),), ((),), ((1, 2, 7),)))
        self.check(None, CHAIN, (1,), ((), ((),), ()))

    def test_own(self):
        self.check("own", CHAIN, (0, 1, 2), (((1, 7),), (), ()))
        self.check("own", CHAIN, (0, 1, 2), (((),), (), ()))

    def test_new(self):
        self.check("new", CHAIN, (0, 1, 2), (((1, 2, 3),), (), ()))
        self.check("new", CHAIN, (0, 1), (((1, 2, 7),), (), ()))

    def test_chain(self):
        self.check("chain", CHAIN, (0, 1, 2), (((1, 2),), (), ((2, 7),)))
        self.check("chain", CHAIN, (0, 1, 2), (((1, 2, 7),), ((1,),), ((2, 7),)))

    def test_two_that_fit_at_once(self):
        self.check("own", CHAIN, (0, 1, 2), (((1, 3),), (), ()))
        self.check("own", CHAIN, (0, 1, 2), (((1, 7),), (), ((2, 7),)))
        self.check("new", CHAIN, (0, 1, 2), (((1, 2),), (), ((2, 7, 9),)))
        self.check("came", CHAIN, (0, 1), (((1,),), (), ((2, 7, 9),)))


class NoCameTest(unittest.TestCase):
    def test_no_lot_of_hands(self):
        wrong = [(0, 0), (1, 0), (0, 3), (3,), (-1,), (True,), (False,), (0, True), [0, 1], [], (None,), ((0,),),
                 ("0",), (0.0,), "", "01", b"\x00", {}, {0: 1}, range(2), 0, None]
        for play in ALL:
            for came in wrong + [thing for thing in strange_things() if thing != ()]:
                for told in (NOTHING, None, (), [9]):
                    with self.subTest(play.kind, came=repr(came)), self.assertRaises(NoCame):
                        fault(play, came, told)

    def test_it_stays_as_it_was(self):
        came, told = [0, {1: [2]}], [[1], [2]]
        self.assertRaises(NoCame, fault, NAMES, came, told)
        self.assertEqual((came, told), ([0, {1: [2]}], [[1], [2]]))


class NoToldTest(unittest.TestCase):
    def refuse(self, play, told):
        for came in ((0, 1, 2), ()):
            with self.subTest(play.kind, told=repr(told)[:90]), self.assertRaises(NoTold):
                fault(play, came, told)

    def refuse_each(self, play, things):
        """None of these is one thing that a hand of the play tells."""
        for thing in things:
            self.refuse(play, ((thing,), (), ()))
            self.refuse(play, ((), (thing,), ()))

    def test_no_tuple_of_a_tuple_for_each_hand(self):
        for play in ALL:
            for thing in strange_things() + [(), ((), ()), ((),) * 4, [(), (), ()], ((), [], ()), ((), None, ()), "abc",
                                             ((), "", ()), ((), {}, ()), (1, 2, 3), ((), (), False)]:
                self.refuse(play, thing)
                self.refuse(play, ((), (), thing) if thing != () else ())

    def test_strange_things_told(self):
        for play in ALL:
            things = [thing for thing in strange_things() if type(thing) is not int or thing < 1]
            self.refuse_each(play, things)
            self.refuse_each(play, [((thing, thing),) * 3 for thing in things])

    def test_more_than_a_script_has_sees(self):
        one = ((0, 0), (0, 0), (0, 0))
        for play in MANNER_PLAYS:
            self.assertIsNone(fault(play, (0, 1, 2), ((one, one), (one,), ())))
            for told in (((one,) * 3, (), ()), ((), (one,) * 2, ()), ((), (), (one,))):
                self.refuse(play, told)

    def test_pictures(self):
        good = ((0, 0), (3, 999), (10 ** 20, 0))
        wrong = [good[:2], good + ((0, 0),), list(good), (), 5]
        for pair in ([0, 0], (0,), (0, 0, 0), (-1, 0), (0, -1), (0, 1000), (True, 0), (0, False), (None, 0), (0, None),
                     ("0", 0), None, 0, (0, 0, None)):
            wrong.append((good[0], pair, good[2]))
        for play in MANNER_PLAYS:
            self.assertIsNone(fault(play, (0, 1, 2), ((good,), (), ())))
            self.refuse_each(play, wrong)

    def test_more_than_one_thing(self):
        for play, one in ((NAMES, 1), (NEAR, (0, 2)), (CHAIN, (1, 2)), (LEVELS, ((0, 7),))):
            self.assertIsNone(fault(play, (0, 1, 2), ((one,), (), ())))
            self.refuse(play, ((one, one), (), ()))
            self.refuse(play, ((one,), (), (one, one)))

    def test_levels(self):
        self.refuse_each(LEVELS, [
            [(0, 7)], ((1, 8), (0, 7)), ((0, 7), (0, 8)), ((0, 7), (0, 7)), ((3, 7),), ((-1, 7),), ((True, 7),),
            ((0, True),), ((0, 1000),), ((0, -1),), ((0,),), ((0, 7, 7),), ([0, 7],), ((0, None),), ((None, 7),), 7, None,
            (0, 7), ((0, 7), None), ((0, 7), (1, "8")),
        ])

    def test_names(self):
        self.refuse_each(NAMES, [0, -1, True, None, "1", (1,), [1], 1.0, b"\x01", {1: 1}])

    def test_near(self):
        self.refuse_each(NEAR, [
            (0, 1), (0, 3), (0,), (0, 2, 2), [0, 2], (True, 2), (0, True), (None, 2), (0, None), ("0", 2), 0, None, (),
        ])
        one = Play("near", (1, (0, 0)))
        self.assertRaises(NoTold, fault, one, (0, 1), (((0, True),), ()))
        self.assertIsNone(fault(one, (0, 1), (((0, 1),), ())))

    def test_chain(self):
        self.refuse_each(CHAIN, [
            (20,), (-1,), (1, 1), (2, 1), [1, 2], (1, True), (None,), 1, None, "1", ((1,),), range(2), {1: 2},
        ])
        self.assertEqual(fault(CHAIN, (0, 1, 2), (((1, 2, 19),), (), ())), "new")

    def test_it_comes_ahead_of_all_words(self):
        self.refuse(NAMES, ((1,), (1,), (0,)))
        self.refuse(CHAIN, (((5,),), ((20,),), ()))

    def test_long_things(self):
        self.refuse(CHAIN, (tuple(range(19990)), (), ()))
        self.refuse(LEVELS, ((tuple((0, 7) for _ in range(6000)),), (), ()))

    def test_it_stays_as_it_was(self):
        told = [[1], [{2: [3]}], ()]
        self.refuse(NAMES, told)
        self.assertEqual(told, [[1], [{2: [3]}], ()])


class AllRunsTest(unittest.TestCase):
    def test_what_is_told_has_no_fault_whatever_the_weaving(self):
        for play in (Play("levels", (1, 2, 3)), Play("names", (5, 9, 2)), Play("near", (2, (5, -5))),
                     Play("near", (1, (0, 10, -7))), Play("chain", ((1, 2), (4,), (2, 7)))):
            for standing in all_standings(play):
                came = tuple(hand for hand, cell in enumerate(standing[0]) if cell not in (None, ()))
                self.assertIsNone(fault(play, came, standing[2]))


if __name__ == "__main__":
    unittest.main()
