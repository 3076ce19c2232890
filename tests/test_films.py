"""Reels of runs, and pictures of them (7.2, 7.3)."""

import random
import unittest

from onepicture.errors import NoManner, NoMoment, NoNumber, NoThing, NoWeaving
from onepicture.films import Reel, drawn, drawn_looks, drawn_run, written
from onepicture.moments import looks, moments
from onepicture.plays import Play
from onepicture.runs import events, first_standing, run, run_out
from tests.samples import nested, strange_things
from tests.test_facts import mixed_weaving

SEE = ("see",)
EXAMPLE = Play("sweep", ((SEE,), (("put", 5),), (("put", 6),)))
EXAMPLE_WEAVING = (0, 0, 1, 2, 0)
FIVE = Play("chain", ((1,), (2,), (3,), (4,), (5,)))
TEN = (4, 0, 0, 3, 4, 1, 2, 2, 1, 3)
OTHERS = [
    Play("levels", (7, 8)), Play("names", (30, 10)), Play("near", (2, (0, 10))), Play("chain", ((1,), (2,))),
]


def no_numbers(least, most):
    """Things that are no numbers from least to most, some of which Python holds for equal to one."""
    found = [thing for thing in strange_things() if not (type(thing) is int and least <= thing <= most)]
    return found + [least - 1, most + 1, True, False, 0.0, 1.0, "1", b"1", (1,), [1], {1: 1}, 10 ** 20]


class ReelTest(unittest.TestCase):
    def check(self, reel, stands, kept, worked, weaving=TEN, play=FIVE):
        """That the reel tells just this, as often as it is asked."""
        for _ in range(2):
            self.assertEqual(repr(reel.stands()), repr(stands))
            self.assertEqual(repr(reel.kept()), repr(tuple(kept)))
            self.assertEqual(repr(reel.worked()), repr(worked))
            self.assertEqual(repr(reel.standing_now()), repr(run(play, weaving[:stands])))

    def seek(self, reel, at, kept, worked):
        self.assertIsNone(reel.seek(at))
        self.check(reel, at, kept, worked)

    def test_at_first(self):
        for every in (1, 3, 10, 500):
            self.check(Reel(FIVE, TEN, every), 0, (0,), 0)
        self.check(Reel(FIVE, (), 1), 0, (0,), 0)
        over = Play("sweep", ((),))
        self.check(Reel(over, [], 1), 0, (0,), 0, (), over)

    def test_ahead(self):
        reel = Reel(FIVE, TEN, 3)
        self.seek(reel, 2, (0,), 2)
        self.seek(reel, 3, (0, 3), 1)
        self.seek(reel, 5, (0, 3), 2)
        self.seek(reel, 10, (0, 3, 6, 9), 5)

    def test_where_it_stands(self):
        reel = Reel(FIVE, TEN, 4)
        self.seek(reel, 0, (0,), 0)
        self.seek(reel, 5, (0, 4), 5)
        self.seek(reel, 5, (0, 4), 0)
        self.seek(reel, 4, (0, 4), 0)
        self.seek(reel, 4, (0, 4), 0)

    def test_back(self):
        reel = Reel(FIVE, TEN, 3)
        self.seek(reel, 8, (0, 3, 6), 8)
        self.seek(reel, 7, (0, 3, 6), 1)
        self.seek(reel, 2, (0, 3, 6), 2)
        self.seek(reel, 0, (0, 3, 6), 0)
        self.seek(reel, 6, (0, 3, 6), 0)

    def test_whichever_is_nearer(self):
        reel = Reel(FIVE, TEN, 5)
        self.seek(reel, 9, (0, 5), 9)
        self.seek(reel, 3, (0, 5), 3)
        # The kept one is nearer to 7 than where it stands, and where it stands is nearer to 8.
        self.seek(reel, 7, (0, 5), 2)
        self.seek(reel, 8, (0, 5), 1)
        self.seek(reel, 6, (0, 5), 1)
        self.seek(reel, 4, (0, 5), 4)
        self.seek(reel, 10, (0, 5, 10), 5)

    def test_every_1(self):
        reel = Reel(FIVE, TEN, 1)
        self.seek(reel, 4, range(5), 4)
        self.seek(reel, 2, range(5), 0)
        self.seek(reel, 6, range(7), 2)
        self.seek(reel, 10, range(11), 4)
        self.seek(reel, 0, range(11), 0)

    def test_every_as_long_as_the_weaving_and_beyond(self):
        reel = Reel(FIVE, TEN, 10)
        self.seek(reel, 9, (0,), 9)
        self.seek(reel, 8, (0,), 8)
        self.seek(reel, 10, (0, 10), 2)
        for every in (11, 12, 500):
            reel = Reel(FIVE, TEN, every)
            self.seek(reel, 10, (0,), 10)
            self.seek(reel, 9, (0,), 9)
            self.seek(reel, 10, (0,), 1)

    def test_refused_seeks_change_nothing(self):
        reel = Reel(FIVE, TEN, 3)
        self.seek(reel, 7, (0, 3, 6), 7)
        for at in no_numbers(0, 10):
            with self.subTest(repr(at)), self.assertRaises(NoMoment):
                reel.seek(at)
            self.check(reel, 7, (0, 3, 6), 7)
        empty = Reel(FIVE, (), 1)
        self.assertRaises(NoMoment, empty.seek, 1)
        self.seek(empty, 0, (0,), 0)

    def test_copies_go_on_apart(self):
        reel = Reel(FIVE, TEN, 3)
        self.seek(reel, 4, (0, 3), 4)
        other = reel.copy()
        self.assertIs(type(other), Reel)
        self.assertIsNot(other, reel)
        self.check(other, 4, (0, 3), 4)
        self.seek(other, 9, (0, 3, 6, 9), 5)
        self.check(reel, 4, (0, 3), 4)
        self.seek(reel, 7, (0, 3, 6), 3)
        third = reel.copy()
        self.seek(third, 1, (0, 3, 6), 1)
        self.check(reel, 7, (0, 3, 6), 3)
        self.check(other, 9, (0, 3, 6, 9), 5)
        self.assertRaises(NoMoment, third.seek, 11)
        self.check(third, 1, (0, 3, 6), 1)
        self.assertRaises(NoMoment, reel.copy().seek, -1)

    def test_it_keeps_a_copy_of_the_weaving(self):
        weaving = list(TEN)
        reel = Reel(FIVE, weaving, 2)
        self.assertEqual(weaving, list(TEN))
        weaving.clear()
        self.seek(reel, 9, (0, 2, 4, 6, 8), 9)
        other = reel.copy()
        weaving.append(0)
        self.seek(other, 10, (0, 2, 4, 6, 8, 10), 1)

    def test_reels_are_equal_to_themselves_alone(self):
        reel = Reel(FIVE, TEN, 2)
        self.assertTrue(reel == reel)
        for thing in strange_things() + [FIVE, TEN, 0, first_standing(FIVE)]:
            self.assertFalse(reel == thing)
            self.assertTrue(reel != thing)

    def test_no_weaving_comes_ahead_of_no_number(self):
        for every in (1, 500, 0, 501, None, "1", True):
            for weaving, index in ((None, -1), ("", -1), (range(2), -1), (TEN + (0,), 10), ([0, 5], 1), ([True], 0)):
                with self.subTest(every=every, weaving=repr(weaving)), self.assertRaises(NoWeaving) as caught:
                    Reel(FIVE, weaving, every)
                self.assertEqual(caught.exception.index, index)
        for weaving in strange_things():
            self.assertRaises(NoWeaving, Reel, FIVE, weaving, 1)

    def test_no_number(self):
        for every in no_numbers(1, 500):
            with self.subTest(repr(every)), self.assertRaises(NoNumber):
                Reel(FIVE, TEN, every)
        self.assertEqual([Reel(FIVE, TEN, every).worked() for every in (1, 2, 499, 500)], [0] * 4)

    def test_wherever_it_stood_it_tells_what_the_weaving_tells(self):
        scripts = ((SEE, ("put", 1), SEE), (("put", 4), SEE, ("put", 2)))
        plays = [Play(kind, scripts) for kind in ("sweep", "twice", "borrow")] + OTHERS
        chance = random.Random(3)
        for play in plays:
            weaving = mixed_weaving(play, 2)
            standings = [run(play, weaving[:many]) for many in range(len(weaving) + 1)]
            for every in (1, 2, 3, 5, len(weaving), len(weaving) + 1):
                reel, stands, farthest = Reel(play, weaving, every), 0, 0
                for _ in range(40):
                    at = chance.randrange(len(weaving) + 1)
                    reel.seek(at)
                    known = [number for number in range(0, farthest + 1, every)] + [stands]
                    farthest = max(farthest, at)
                    self.assertEqual(reel.standing_now(), standings[at])
                    self.assertEqual(reel.worked(), at - max(number for number in known if number <= at))
                    self.assertEqual(reel.kept(), tuple(range(0, farthest + 1, every)))
                    stands = at
                for at in range(farthest + 1):
                    reel.seek(at)
                    self.assertLess(reel.worked(), every)


class WrittenTest(unittest.TestCase):
    def test_by_hand(self):
        for thing, word in (
            (0, "0"), (7, "7"), (-7, "-7"), (10 ** 20 - 1, "9" * 20), (-10 ** 19, "-1" + "0" * 19), (None, "-"),
            (True, "yes"), (False, "no"), ((), "()"), ((1,), "(1)"), ((1, 2), "(1,2)"), (((),), "(())"),
            (((), ()), "((),())"), ((None, True, False, -1, (0,)), "(-,yes,no,-1,(0))"),
            (((0, 0, None), (1, -5, ((0, 0), (1, 1)))), "((0,0,-),(1,-5,((0,0),(1,1))))"),
        ):
            self.assertEqual(written(thing), word)
            self.assertIs(type(written(thing)), str)

    def test_20_deep_and_21_deep(self):
        twenty = nested(19, lambda thing: (thing,))
        self.assertEqual(written(twenty), "(" * 20 + ")" * 20)
        self.assertRaises(NoThing, written, (twenty,))
        self.assertEqual(written(nested(18, lambda thing: (1, thing))), "(1," * 18 + "()" + ")" * 18)
        inner = (7,)
        for _ in range(19):
            inner = (None, inner, 0)
        self.assertEqual(written(inner), "(-," * 19 + "(7)" + ",0)" * 19)
        self.assertRaises(NoThing, written, (1, inner))
        self.assertRaises(NoThing, written, (inner, inner))
        self.assertRaises(NoThing, written, nested(39, lambda thing: (thing,)))

    def test_wide_things(self):
        self.assertEqual(written((0,) * 19999), "(" + "0," * 19998 + "0)")

    def test_no_thing(self):
        for thing in strange_things() + ["", "1", [], [1], {}, b"", 1.0, {1}, Play("levels", (1,)), range(2), ([1],)]:
            if type(thing) not in (int, bool, type(None)):
                for whole in (thing, (thing,), (1, (2, thing)), ((), thing, 3)):
                    with self.subTest(repr(whole)[:80]), self.assertRaises(NoThing):
                        written(whole)


class DrawnTest(unittest.TestCase):
    def check(self, play, weaving, *rows):
        standing = run(play, weaving)
        kept = repr(standing)
        for _ in range(2):
            self.assertEqual(drawn(play, standing), "".join(row + "\n" for row in rows))
        self.assertEqual(repr(standing), kept)

    def test_sweep(self):
        self.check(EXAMPLE, (), "0: (0,0,-) (0,-,-,(),-) ()", "1: (0,0,-) (0,-,-,(),-) ()",
                   "2: (0,0,-) (0,-,-,(),-) ()")
        self.check(EXAMPLE, EXAMPLE_WEAVING[:4], "0: (0,0,-) (0,-,-,((0,0,-),(0,0,-)),-) ()", "1: (1,5,-) - ()",
                   "2: (1,6,-) - ()")
        self.check(EXAMPLE, EXAMPLE_WEAVING, "0: (0,0,-) - (((0,0),(0,0),(1,6)))", "1: (1,5,-) - ()",
                   "2: (1,6,-) - ()")

    def test_twice(self):
        self.check(Play("twice", ((SEE,),)), (0,), "0: (0,0,-) (0,(0),(0),(),-) ()")
        self.check(Play("twice", ((SEE, SEE),)), (0,) * 4, "0: (0,0,-) - (((0,0)),((0,0)))")

    def test_borrow(self):
        play = Play("borrow", ((("put", 9), SEE), ()))
        self.check(play, (0,) * 4, "0: (0,0,-) (0,-,-,(),((0,0),(0,0))) ()", "1: (0,0,-) - ()")
        self.check(play, (0,) * 7, "0: (1,9,((0,0),(0,0))) (1,(1,0),(1,0),(),-) ()", "1: (0,0,-) - ()")
        self.check(play, (0,) * 8, "0: (1,9,((0,0),(0,0))) (1,(1,0),(1,0),((1,9,((0,0),(0,0)))),-) ()",
                   "1: (0,0,-) - ()")

    def test_levels(self):
        play = Play("levels", (7, 8))
        self.check(play, (), "0: - (3,-) ()", "1: - (3,-) ()")
        self.check(play, (1, 1), "0: - (3,-) ()", "1: (2,8) (2,(-)) ()")
        self.check(play, (0, 0, 1, 0), "0: (2,7) - (((0,7),(1,8)))", "1: (2,8) (2,()) ()")

    def test_names(self):
        play = Play("names", (30, 10))
        self.check(play, (0, 1, 0), "0: (30,1) (3,no) ()", "1: (10,1) (1,yes) ()")
        self.check(play, (0, 1, 0, 0, 0), "0: (30,3) - (3)", "1: (10,1) (1,yes) ()")

    def test_near(self):
        play = Play("near", (2, (-5, 10)))
        self.check(play, (), "0: () (0,-5,no) ()", "1: () (0,10,no) ()")
        self.check(play, (0, 1, 0, 0), "0: (-5,5) (1,5,yes) ()", "1: (10) (0,10,yes) ()")
        self.check(play, (0, 1, 0, 0, 0), "0: (-5,5) - ((10,2))", "1: (10) (0,10,yes) ()")

    def test_chain(self):
        play = Play("chain", ((1,), (2, 3), ()))
        self.check(play, (), "0: - (no) ()", "1: - (no) ()", "2: - (no) ()")
        self.check(play, (0, 1, 1, 2), "0: (1) (yes) ()", "1: (2,3) - ((1,2,3))", "2: () (yes) ()")

    def test_five_hands_and_long_pictures(self):
        play = Play("borrow", ((SEE, ("put", 999)) * 3,) * 5)
        standing = run(play, run_out(play, ()))
        rows = drawn(play, standing).split("\n")
        self.assertEqual(len(rows), 6)
        for hand in range(5):
            words = [written(standing[part][hand]) for part in range(3)]
            self.assertEqual(rows[hand], f"{hand}: {words[0]} - {words[2]}")


class DrawnRunTest(unittest.TestCase):
    def check(self, play, weaving, *rows):
        for form in (list(weaving), tuple(weaving)):
            self.assertEqual(drawn_run(play, form), "".join(row + "\n" for row in rows))
            self.assertEqual(form, type(form)(weaving))

    def test_of_each_kind(self):
        self.check(EXAMPLE, EXAMPLE_WEAVING, "01..2", "..P..", "...P.")
        self.check(Play("twice", ((SEE,), (("put", 1),))), (0, 0, 1, 0, 0, 0, 0), "01.0101", "..P....")
        self.check(Play("borrow", ((("put", 1),), ())), (0,) * 5, "0101P", ".....")
        self.check(Play("levels", (7, 8)), (0, 1, 1, 1, 0, 0), "P...01", ".P01..")
        self.check(Play("names", (30, 10)), (0, 1, 0, 0, 0, 1), "P.SPS.", ".P...S")
        self.check(Play("near", (1, (0, 10))), (1, 1, 0, 0), "..PS", "PS..")
        self.check(FIVE, TEN, ".PS.......", ".....P..S.", "......PS..", "...P.....S", "P...S.....")

    def test_no_steps(self):
        self.check(EXAMPLE, (), "", "", "")
        self.check(Play("sweep", ((),)), (), "")

    def test_by_events(self):
        signs = {"put": lambda cell: "P", "see": lambda cell: "S", "look": str}
        play = Play("borrow", ((SEE, ("put", 1)), (("put", 4), SEE), (SEE, SEE)))
        for seed in range(10):
            weaving = mixed_weaving(play, seed)
            rows = ["".join(signs[word](cell) if other == hand else "." for other, word, cell in events(play, weaving))
                    for hand in range(3)]
            self.check(play, weaving, *rows)

    def test_no_weaving(self):
        for play in OTHERS + [EXAMPLE]:
            for weaving in strange_things() + [None, (0, True)]:
                with self.subTest(play.kind, weaving=repr(weaving)[:60]), self.assertRaises(NoWeaving):
                    drawn_run(play, weaving)
        with self.assertRaises(NoWeaving) as caught:
            drawn_run(EXAMPLE, (0, 1, 1, 9))
        self.assertEqual(caught.exception.index, 2)


class DrawnLooksTest(unittest.TestCase):
    def check(self, play, weaving, *rows):
        for form in (list(weaving), tuple(weaving)):
            self.assertEqual(drawn_looks(play, form), "".join(row + "\n" for row in rows))
            self.assertEqual(form, type(form)(weaving))

    def test_by_hand(self):
        self.check(EXAMPLE, EXAMPLE_WEAVING, "------")
        self.check(EXAMPLE, (1, 0, 0, 2, 0), ".---**")
        self.check(EXAMPLE, (2, 0, 0, 1, 0), ".***--")
        play = Play("sweep", ((SEE, ("put", 3), SEE), (("put", 5), SEE)))
        self.check(play, (0, 0, 0, 0, 1, 0, 1, 1), "***......", "...--**..", "......***")
        play = Play("twice", ((SEE,), (("put", 7), ("put", 8))))
        self.check(play, (0, 0, 1, 0, 0, 1, 0, 0, 0, 0), "------*****")
        play = Play("borrow", ((SEE,), (("put", 7), ("put", 8))))
        self.check(play, (0, 0) + (1,) * 10 + (0, 0), "..*****........", ".......*****...", "-------*****---")

    def test_a_picture_that_stood_behind_the_end_too(self):
        play = Play("sweep", ((SEE,), (SEE, ("put", 1))))
        self.check(play, (0, 0, 1, 1, 1), "***...", "..***.")
        # The row goes on to the last moment, whoever does the steps.
        self.check(play, (0, 0, 1), "***.")

    def test_none_ended(self):
        for kind in ("sweep", "twice", "borrow"):
            self.check(Play(kind, ((SEE,), (("put", 1),))), ())
            self.check(Play(kind, ((SEE,), (("put", 1),))), (0,))
            self.check(Play(kind, ((),)), ())

    def test_by_looks_and_standings(self):
        scripts = ((SEE, ("put", 1), SEE), (("put", 4), SEE, ("put", 2)), (("put", 4), ("put", 6), SEE))
        for kind in ("sweep", "twice", "borrow"):
            play = Play(kind, scripts)
            for seed in range(8):
                weaving = mixed_weaving(play, seed)
                stood = [tuple(cell[:2] for cell in run(play, weaving[:many])[0]) for many in range(len(weaving) + 1)]
                rows = ["".join("-*"[there == picture] if begin <= at <= end else "." for at, there in enumerate(stood))
                        for _, _, begin, end, picture in looks(play, weaving)]
                self.check(play, weaving, *rows)
                firsts = tuple(row.index("*") if "*" in row else None for row in rows)
                self.assertEqual(moments(play, weaving), firsts)
                if kind != "sweep":
                    self.assertNotIn(None, firsts)

    def test_no_manner_comes_ahead_of_no_weaving(self):
        for play in OTHERS:
            for weaving in [(), (0,), [9]] + strange_things():
                with self.subTest(play.kind, weaving=repr(weaving)[:60]), self.assertRaises(NoManner):
                    drawn_looks(play, weaving)

    def test_no_weaving(self):
        for weaving in strange_things():
            with self.subTest(repr(weaving)[:60]), self.assertRaises(NoWeaving):
                drawn_looks(EXAMPLE, weaving)
        with self.assertRaises(NoWeaving) as caught:
            drawn_looks(EXAMPLE, (0, 1, 1, 9))
        self.assertEqual(caught.exception.index, 2)


if __name__ == "__main__":
    unittest.main()
