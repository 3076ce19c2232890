"""Runs as records (6.5)."""

import unittest

from onepicture.errors import NoManner, NoWeaving
from onepicture.moments import looks
from onepicture.plays import Play
from onepicture.records import Record, bar, first_lie, is_order, order_of
from onepicture.runs import events, run_out
from onepicture.witness import recorded
from tests.samples import strange_things
from tests.test_facts import mixed_weaving

SEE = ("see",)
PUT = ("put", 5)
N = None
OTHERS = [
    Play("levels", (7, 8)), Play("names", (30, 10)), Play("near", (2, (0, 10))), Play("chain", ((1,), (2,))),
]


def calls_by_words(play, weaving):
    """The calls of the run, found from its events and its looks alone."""
    found, done = [], [0] * len(play.inputs)
    told = {(hand, deed): (begin, end, picture) for hand, deed, begin, end, picture in looks(play, weaving)}
    steps = {}
    for at, (hand, word, _) in enumerate(events(play, weaving)):
        steps.setdefault((hand, done[hand]), []).append(at)
        if word == "put":
            done[hand] += 1
        elif (hand, done[hand]) in told and told[hand, done[hand]][1] == at + 1:
            if play.inputs[hand][done[hand]] == SEE:
                done[hand] += 1
    for (hand, deed), there in steps.items():
        ended = deed < done[hand]
        if play.inputs[hand][deed] == SEE:
            if ended:
                picture = tuple(number if number else None for number, _ in told[hand, deed][2])
                found.append(("look", hand, picture, 2 * there[0], 2 * there[-1] + 1))
        else:
            rank = sum(other[0] == "put" for other in play.inputs[hand][:deed]) + 1
            found.append(("put", hand, rank, 2 * there[0], 2 * there[-1] + 1 if ended else None))
    return tuple(sorted(found, key=lambda call: call[3]))


class RecordedTest(unittest.TestCase):
    def check(self, play, weaving, *calls):
        for form in (tuple(weaving), list(weaving)):
            found = recorded(play, form)
            self.assertIs(type(found), Record)
            self.assertEqual(found.many, len(play.inputs))
            self.assertEqual(repr(found.calls), repr(calls))
            self.assertEqual(found, Record(len(play.inputs), calls))
            self.assertEqual(form, type(form)(weaving))
        return found

    def test_nothing_was_done(self):
        for kind in ("sweep", "twice", "borrow"):
            self.check(Play(kind, ((SEE,), (PUT,))), ())
            self.check(Play(kind, ((), (), ())), ())
            self.check(Play(kind, ((),)), ())

    def test_sweep(self):
        play = Play("sweep", ((SEE, ("put", 3), SEE), (("put", 5), SEE)))
        self.check(play, (0, 0, 0, 0, 1, 0, 1, 1),
                   ("look", 0, (N, N), 0, 3), ("put", 0, 1, 4, 5), ("look", 0, (1, 1), 6, 11),
                   ("put", 1, 1, 8, 9), ("look", 1, (1, 1), 12, 15))
        self.check(play, (0, 1, 0, 0, 1, 0),
                   ("look", 0, (N, 1), 0, 5), ("put", 1, 1, 2, 3), ("put", 0, 1, 6, 7))

    def test_twice(self):
        play = Play("twice", ((SEE,), (("put", 7), ("put", 8))))
        weaving = (0, 0, 1, 0, 0, 1, 0, 0, 0, 0)
        self.check(play, weaving, ("look", 0, (N, 2), 0, 19), ("put", 1, 1, 4, 5), ("put", 1, 2, 10, 11))
        self.check(play, weaving[:-1], ("put", 1, 1, 4, 5), ("put", 1, 2, 10, 11))
        self.check(play, weaving[:2])

    def test_borrow_of_a_put_with_a_look(self):
        play = Play("borrow", ((("put", 9), SEE), (("put", 7),)))
        weaving = (1, 1, 0, 1, 1, 0, 1, 0, 0, 0, 0, 0, 0, 0, 0, 0)
        self.check(play, weaving[:1], ("put", 1, 1, 0, N))
        self.check(play, weaving[:2], ("put", 1, 1, 0, N))
        # The looks of both puts are begun; that of hand 1 has ended behind its fourth step, and its put is not done.
        self.check(play, weaving[:3], ("put", 1, 1, 0, N), ("put", 0, 1, 4, N))
        self.check(play, weaving[:5], ("put", 1, 1, 0, N), ("put", 0, 1, 4, N))
        self.check(play, weaving[:7], ("put", 1, 1, 0, 13), ("put", 0, 1, 4, N))
        self.check(play, weaving[:11], ("put", 1, 1, 0, 13), ("put", 0, 1, 4, N))
        self.check(play, weaving[:12], ("put", 1, 1, 0, 13), ("put", 0, 1, 4, 23))
        # A see that has not ended is no call.
        self.check(play, weaving[:15], ("put", 1, 1, 0, 13), ("put", 0, 1, 4, 23))
        self.check(play, weaving, ("put", 1, 1, 0, 13), ("put", 0, 1, 4, 23), ("look", 0, (1, 1), 24, 31))

    def test_borrow_of_a_picture_of_another(self):
        play = Play("borrow", ((SEE,), (("put", 7), ("put", 8))))
        found = self.check(play, (0, 0) + (1,) * 10 + (0, 0),
                           ("look", 0, (N, 1), 0, 27), ("put", 1, 1, 4, 13), ("put", 1, 2, 14, 23))
        self.assertIs(is_order(found, (1, 0, 2)), True)

    def test_values_are_ranks_whatever_was_put(self):
        play = Play("sweep", ((("put", 0), ("put", 999), SEE, ("put", 0), SEE),))
        self.check(play, (0,) * 5, ("put", 0, 1, 0, 1), ("put", 0, 2, 2, 3), ("look", 0, (2,), 4, 5),
                   ("put", 0, 3, 6, 7), ("look", 0, (3,), 8, 9))
        play = Play("sweep", ((SEE,), (("put", 0),), (("put", 0),)))
        self.check(play, (1, 0, 0, 0, 2), ("put", 1, 1, 0, 1), ("look", 0, (N, 1, N), 2, 7), ("put", 2, 1, 8, 9))

    def test_calls_are_by_begins_whoever_ends_first(self):
        play = Play("sweep", ((SEE,), (SEE,), (PUT,)))
        self.check(play, (0, 1, 1, 2, 1, 0, 0),
                   ("look", 0, (N, N, 1), 0, 13), ("look", 1, (N, N, 1), 2, 9), ("put", 2, 1, 6, 7))

    def test_one_hand_alone(self):
        self.check(Play("sweep", ((SEE, PUT),)), (0, 0), ("look", 0, (N,), 0, 1), ("put", 0, 1, 2, 3))
        self.check(Play("twice", ((SEE, PUT),)), (0, 0, 0), ("look", 0, (N,), 0, 3), ("put", 0, 1, 4, 5))
        self.check(Play("borrow", ((PUT, SEE),)), (0,) * 5, ("put", 0, 1, 0, 5), ("look", 0, (1,), 6, 9))

    def test_the_longest_one(self):
        for kind in ("sweep", "twice", "borrow"):
            play = Play(kind, ((PUT, SEE) * 3,) * 5)
            self.assertEqual(len(recorded(play, run_out(play, ())).calls), 30)

    def test_by_events_and_looks(self):
        scripts = ((SEE, PUT, SEE), (PUT, SEE, ("put", 2)), (("put", 4), ("put", 6), ("put", 5), SEE))
        for kind in ("sweep", "twice", "borrow"):
            play = Play(kind, scripts)
            for seed in range(12):
                weaving = mixed_weaving(play, seed)
                for many in list(range(0, len(weaving), 5)) + [len(weaving)]:
                    found = recorded(play, weaving[:many])
                    self.assertEqual(found.calls, calls_by_words(play, weaving[:many]))

    def test_equal_calls_equal_answers(self):
        play = Play("borrow", ((SEE,), (PUT,)))
        one, other = recorded(play, (1, 0, 1)), recorded(play, [1, 0, 1])
        self.assertEqual(one, other)
        self.assertIsNot(one, other)


class ErrorsTest(unittest.TestCase):
    def test_no_manner_whatever_the_weaving(self):
        for play in OTHERS:
            for weaving in [(), [0, 1], (0,) * 99, (7,)] + strange_things():
                with self.subTest(play.kind, weaving=repr(weaving)[:60]), self.assertRaises(NoManner):
                    recorded(play, weaving)

    def test_no_weaving(self):
        for kind in ("sweep", "twice", "borrow"):
            play = Play(kind, (((PUT,),) * 2))
            over = len(run_out(play, ())) // 2
            rows = [(thing, -1) for thing in strange_things() if not isinstance(thing, (list, tuple))]
            rows += [((thing,), 0) for thing in strange_things()]
            rows += [([1, True], 1), ((0, [0], 9), 1), ((2,), 0), ((0,) * (over + 1), over), ([1] * 99, over)]
            for weaving, index in rows:
                with self.subTest(kind, weaving=repr(weaving)[:60]), self.assertRaises(NoWeaving) as caught:
                    recorded(play, weaving)
                self.assertEqual(caught.exception.index, index)


class FactTest(unittest.TestCase):
    plays = [
        ((SEE, SEE), (PUT, ("put", 2), ("put", 3)), (("put", 4), SEE, ("put", 5))),
        ((SEE, ("put", 9), SEE), (PUT, SEE), (("put", 4), ("put", 6), ("put", 5)), (SEE,)),
        ((SEE,), (PUT,), (PUT,)),
    ]

    def each(self, kind):
        for scripts in self.plays:
            play = Play(kind, scripts)
            for seed in range(25):
                weaving = mixed_weaving(play, seed)
                yield from (recorded(play, weaving[:many]) for many in {len(weaving) // 2, len(weaving)})

    def test_in_twice_and_borrow_each_has_a_right_order(self):
        for kind in ("twice", "borrow"):
            for record in self.each(kind):
                self.assertIs(is_order(record, order_of(record)), True)
                self.assertIsNone(bar(record))
                self.assertIsNone(first_lie(record))

    def test_in_sweep_some_has_none(self):
        found = [order_of(record) is None for record in self.each("sweep")]
        self.assertTrue(any(found))
        self.assertFalse(all(found))

    def test_the_example_in_sweep(self):
        record = recorded(Play("sweep", ((SEE,), (("put", 5),), (("put", 6),))), (0, 0, 1, 2, 0))
        self.assertEqual(record.calls, (("look", 0, (N, N, 1), 0, 9), ("put", 1, 1, 4, 5), ("put", 2, 1, 6, 7)))
        self.assertIsNone(order_of(record))
        self.assertEqual(bar(record), ("crossed", 0, 1, 2))
        self.assertEqual(first_lie(record), 9)


if __name__ == "__main__":
    unittest.main()
