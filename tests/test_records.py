"""Records: their form, what looks tell, cuts, the first lie (6.1, 6.4)."""

import unittest

from onepicture.errors import BadRecord, NoLook, NoMoment, NoNumber, Unclear
from onepicture.records import Record, bar, cut, first_lie, is_order, order_of, told
from tests.samples import strange_things
from tests.tales import has_right_order, made_up, ranks_told

PUTS = (("put", 0, 7, 0, 3), ("put", 1, 8, 1, 2), ("put", 0, 9, 5, None))


def look(picture, begin, end, hand=0):
    return ("look", hand, picture, begin, end)


class RecordTest(unittest.TestCase):
    def test_attributes(self):
        record = Record(2, PUTS)
        self.assertEqual(vars(record), {"many": 2, "calls": PUTS})
        self.assertEqual(vars(Record(1, ())), {"many": 1, "calls": ()})
        self.assertEqual(vars(Record(8, (look((None,) * 8, 0, 1, 7),)))["many"], 8)

    def test_equal_if_both_are(self):
        record = Record(2, PUTS)
        self.assertTrue(record == Record(2, PUTS))
        self.assertFalse(record != Record(2, PUTS))
        self.assertFalse(record == Record(3, PUTS))
        self.assertFalse(record == Record(2, PUTS[:2]))
        for thing in strange_things() + [(2, PUTS), [2, PUTS], PUTS, 2]:
            self.assertFalse(record == thing)
            self.assertTrue(record != thing)

    def test_equal_to_nothing_of_a_class_below(self):
        class Other(Record):
            pass

        self.assertFalse(Record(2, PUTS) == Other(2, PUTS))
        self.assertFalse(Other(2, PUTS) == Record(2, PUTS))

    def test_no_number(self):
        for many in strange_things() + [0, 9, -1, True, False, 10 ** 19, "2", (2,), [2], 2.0]:
            if repr(many) != "5":
                for calls in ((), PUTS, [], None, (None,)):
                    with self.subTest(many=repr(many)), self.assertRaises(NoNumber):
                        Record(many, calls)
        for many in range(1, 9):
            self.assertEqual(Record(many, ()).many, many)


class BadRecordTest(unittest.TestCase):
    def refuse(self, index, calls, many=2):
        with self.subTest(calls=repr(calls)[:120]), self.assertRaises(BadRecord) as caught:
            Record(many, calls)
        self.assertEqual(caught.exception.index, index)
        self.assertIs(type(caught.exception.index), int)

    def test_no_tuple_of_so_many(self):
        for calls in strange_things():
            if not isinstance(calls, tuple):
                self.refuse(-1, calls)
        self.refuse(-1, list(PUTS))
        self.refuse(-1, [])
        self.refuse(-1, tuple(("put", 0, at, 2 * at, 2 * at + 1) for at in range(301)))
        self.refuse(-1, (None,) * 301)
        self.assertEqual(len(Record(1, tuple(("put", 0, at, 2 * at, 2 * at + 1) for at in range(300))).calls), 300)

    def test_the_first_that_is_none(self):
        for thing in strange_things() + [(), [], ("put",), None]:
            self.refuse(0, (thing,))
            self.refuse(1, (PUTS[0], thing, thing))
            self.refuse(2, PUTS[:2] + (thing,))

    def test_forms_of_puts(self):
        good = ["put", 0, 7, 4, 6]
        self.assertEqual(len(Record(2, (tuple(good),)).calls), 1)
        wrong = {0: ["puts", "look", "see", b"put", None, ("put",)], 1: [2, -1, True, False, None, "0", (0,)],
                 2: [-1, None, True, False, "7", (7,), (None, None)], 3: [-1, None, True, False, "4", (4,), 6, 7],
                 4: [4, 3, -1, True, False, "6", (6,), [None]]}
        for at, things in wrong.items():
            for thing in things:
                self.refuse(0, (tuple(good[:at] + [thing] + good[at + 1:]),))
        for call in (good, tuple(good[:4]), tuple(good + [1]), tuple(good + [None])):
            self.refuse(0, (call,))
        self.assertEqual(len(Record(2, (("put", 1, 10 ** 20, 0, None),)).calls), 1)

    def test_forms_of_looks(self):
        good = ["look", 1, (None, 8), 4, 6]
        self.assertEqual(len(Record(2, (tuple(good),)).calls), 1)
        wrong = {0: ["looks", "put", b"look", None], 1: [2, -1, True, None],
                 2: [(), (None,), (None,) * 3, [None, 8], None, 8, (None, -1), (None, True), (False, None), (None, "8"),
                     ((0, 1), (0, 1))],
                 3: [-1, None, True, 6, 7], 4: [4, 3, None, True, "6"]}
        for at, things in wrong.items():
            for thing in things:
                self.refuse(0, (tuple(good[:at] + [thing] + good[at + 1:]),))
        self.refuse(0, (good,))

    def test_begins_in_order(self):
        self.refuse(1, (("put", 0, 1, 3, 4), ("put", 1, 1, 3, 5)))
        self.refuse(1, (("put", 0, 1, 3, 4), ("put", 1, 1, 2, 5)))
        self.refuse(2, (("put", 0, 1, 3, 4), ("put", 1, 1, 5, 9), ("put", 0, 2, 4, 6)))
        self.refuse(1, (("put", 0, 1, 0, 4), ("put", 1, 1, 0, 5)))

    def test_the_first_wrong_one_whatever_is_wrong(self):
        self.refuse(1, (("put", 0, 1, 3, 4), ("put", 1, 1, 2, 5), None))
        self.refuse(1, (("put", 0, 1, 3, 4), None, ("put", 1, 1, 2, 5)))

    def test_it_comes_ahead_of_unclear(self):
        self.refuse(2, (("put", 0, 1, 3, 5), ("put", 0, 1, 5, 7), ("put", 1, 1, 2, 9)))

    def test_what_is_passed_stays_as_it_was(self):
        calls = (["put", 0, {1: [2]}, 0, 1],)
        self.refuse(0, calls)
        self.assertEqual(calls, (["put", 0, {1: [2]}, 0, 1],))


class UnclearTest(unittest.TestCase):
    def refuse(self, word, calls, many=2):
        with self.subTest(calls=repr(calls)), self.assertRaises(Unclear) as caught:
            Record(many, calls)
        self.assertEqual(caught.exception.word, word)

    def test_moments(self):
        self.refuse("moments", (("put", 0, 1, 0, 5), ("put", 1, 1, 1, 5)))
        self.refuse("moments", (("put", 0, 1, 0, 3), ("put", 1, 1, 3, 5)))
        self.refuse("moments", (("put", 0, 1, 0, 3), look((None, None), 1, 3, 1)))
        self.refuse("moments", (("put", 0, 1, 0, 3), ("put", 0, 2, 3, None)))

    def test_ends_that_never_were_are_no_moments(self):
        self.assertEqual(len(Record(2, (("put", 0, 1, 0, None), ("put", 1, 1, 1, None))).calls), 2)

    def test_hands(self):
        self.refuse("hands", (("put", 0, 1, 0, 5), ("put", 0, 2, 1, 7)))
        self.refuse("hands", (("put", 0, 1, 0, 5), ("put", 1, 1, 1, 2), look((None, None), 3, 4)))
        self.refuse("hands", (("put", 0, 1, 0, None), ("put", 0, 2, 1, 7)))
        self.refuse("hands", (("put", 0, 1, 0, None), look((None, None), 3, 4)))
        self.refuse("hands", (look((None, None), 0, 9, 1), ("put", 1, 2, 8, 10)))
        self.assertEqual(len(Record(2, (look((None, None), 0, 8, 1), ("put", 1, 2, 9, 10))).calls), 2)

    def test_values(self):
        self.refuse("values", (("put", 0, 1, 0, 5), ("put", 1, 1, 6, 7), ("put", 0, 1, 8, 9)))
        self.refuse("values", (("put", 0, 1, 0, 5), ("put", 0, 1, 8, None)))
        self.assertEqual(len(Record(2, (("put", 0, 1, 0, 5), ("put", 1, 1, 6, 7))).calls), 2)

    def test_two_that_fit_at_once(self):
        self.refuse("moments", (("put", 0, 1, 0, 5), ("put", 0, 1, 1, 5)))
        self.refuse("moments", (("put", 0, 1, 0, 5), ("put", 0, 1, 3, 7), ("put", 1, 1, 7, 8)))
        self.refuse("hands", (("put", 0, 1, 0, 5), ("put", 0, 1, 1, 7)))
        self.refuse("hands", (("put", 0, 1, 0, 5), ("put", 0, 1, 6, None), ("put", 0, 2, 7, 8)))


class ToldTest(unittest.TestCase):
    record = Record(2, PUTS[:2] + (look((9, 8), 4, 6, 1), PUTS[2][:3] + (7, None), look((None, 7), 10, 11, 1),
                                   look((7, None), 12, 13, 1)))

    def test_which_of_the_puts_of_each_hand(self):
        self.assertEqual(told(self.record, 2), (2, 1))
        self.assertEqual(told(self.record, 4), (0, None))
        self.assertEqual(told(self.record, 5), (1, 0))

    def test_values_0_are_put_too(self):
        record = Record(1, (("put", 0, 5, 0, 1), ("put", 0, 0, 2, 3), look((0,), 4, 5), look((None,), 6, 7)))
        self.assertEqual((told(record, 2), told(record, 3)), ((2,), (0,)))

    def test_one_by_one(self):
        for seed in range(60):
            record = made_up(seed, 3, 12, slack=4)
            for index, ranks in ranks_told(record).items():
                self.assertEqual(told(record, index), ranks)

    def test_no_look(self):
        for index in [thing for thing in strange_things() if repr(thing) != "5"] + [
                0, 1, 3, 6, -1, -2, True, False, None, "2", (2,), [2], 2.0]:
            with self.subTest(repr(index)), self.assertRaises(NoLook):
                told(self.record, index)
        self.assertRaises(NoLook, told, Record(1, ()), 0)
        # Python holds True for 1, but it is no number.
        self.assertRaises(NoLook, told, Record(1, (look((None,), 0, 1), look((None,), 2, 3))), True)


class CutTest(unittest.TestCase):
    record = Record(2, (("put", 0, 7, 2, 6), look((None, 8), 3, 9, 1), look((7, None), 8, 12), ("put", 1, 8, 10, None)))

    def test_at_each_moment(self):
        put, first, second, last = self.record.calls
        going = put[:4] + (None,)
        rows = {0: (), 1: (), 2: (going,), 3: (going,), 5: (going,), 6: (put,), 7: (put,), 8: (put,), 9: (put, first),
                10: (put, first, last), 11: (put, first, last), 12: self.record.calls, 13: self.record.calls,
                10 ** 20: self.record.calls}
        for moment, calls in rows.items():
            with self.subTest(moment):
                found = cut(self.record, moment)
                self.assertEqual(found, Record(2, calls))
                self.assertIs(type(found), Record)
                self.assertEqual(cut(found, moment), found)
        self.assertEqual(second[4], 12)
        self.assertEqual(cut(Record(3, ()), 0), Record(3, ()))

    def test_no_moment(self):
        for moment in strange_things() + [-1, True, False, None, "3", (3,), [3], 3.0]:
            if not (type(moment) is int and moment >= 0):
                with self.subTest(repr(moment)), self.assertRaises(NoMoment):
                    cut(self.record, moment)

    def test_the_record_stays_as_it_was(self):
        calls = self.record.calls
        cut(self.record, 5)
        self.assertEqual((self.record.many, self.record.calls), (2, calls))


class FirstLieTest(unittest.TestCase):
    def test_none(self):
        for calls in ((), PUTS, PUTS[:1] + (look((7, None), 4, 5, 1),)):
            self.assertIsNone(first_lie(Record(2, calls)))

    def test_the_end_of_a_look(self):
        strange = look((5, None), 4, 6, 1)
        self.assertEqual(first_lie(Record(2, PUTS[:2] + (strange,))), 6)
        # The value is put, but behind the end of the look, and each cut from there on has it so.
        self.assertEqual(first_lie(Record(2, PUTS[:2] + (look((9, 8), 4, 6, 1), ("put", 0, 9, 7, 8)))), 6)
        # Both looks are right by themselves; the one that ends last tells less than the other did.
        record = Record(3, (("put", 0, 7, 0, 9), look((7, None, None), 1, 2, 1), look((None, None, None), 3, 5, 2)))
        self.assertEqual(first_lie(record), 5)

    def test_the_least_of_several(self):
        record = Record(2, (look((5, None), 0, 8), look((None, 6), 1, 4, 1), look((None, 6), 6, 7, 1)))
        self.assertEqual(first_lie(record), 4)

    def test_cut_at_all_moments_one_by_one(self):
        found = {}
        for seed in range(250):
            record = made_up(seed, 2 + seed % 2, 6)
            last = max((moment for call in record.calls for moment in call[3:] if moment is not None), default=0)
            lies = [moment for moment in range(last + 2) if not has_right_order(cut(record, moment))]
            least = lies[0] if lies else None
            self.assertEqual(first_lie(record), least, record.calls)
            found[least is None] = found.get(least is None, 0) + 1
            if lies:
                self.assertEqual(lies, list(range(least, last + 2)))
                self.assertIn(least, [call[4] for call in record.calls if call[0] == "look"])
        self.assertGreater(min(found[True], found[False]), 40)


class LongRecordTest(unittest.TestCase):
    def test_with_an_order(self):
        for many in (1, 4, 8):
            record = made_up(many, many, 300, slack=0, stops=0)
            self.assertGreater(len(record.calls), 290)
            self.assertIs(is_order(record, order_of(record)), True)
            self.assertIsNone(bar(record))
            self.assertIsNone(first_lie(record))

    def test_with_a_late_lie(self):
        record = made_up(3, 8, 300, slack=0, stops=0)
        at = max(index for index, call in enumerate(record.calls) if call[0] == "look")
        call = record.calls[at]
        calls = record.calls[:at] + (call[:2] + ((None,) * 8,) + call[3:],) + record.calls[at + 1:]
        liar = Record(8, calls)
        self.assertIsNone(order_of(liar))
        self.assertIsNotNone(bar(liar))
        self.assertEqual(first_lie(liar), call[4])

    def test_with_many_lies(self):
        record = made_up(9, 8, 300, slack=3, stops=0)
        self.assertIsNone(order_of(record))
        least = first_lie(record)
        self.assertIsNone(order_of(cut(record, least)))
        self.assertIsNotNone(order_of(cut(record, least - 1)))


if __name__ == "__main__":
    unittest.main()
