"""Orders of records, their points, and the bars that keep records from having one (6.2, 6.3)."""

import unittest

from onepicture.errors import NoOrder
from onepicture.records import Record, bar, is_bar, is_order, order_of, points
from tests.samples import strange_things
from tests.tales import bars_by_words, has_right_order, is_right, made_up, rows_of

NOTHING = Record(2, ())


def put(hand, value, begin, end):
    return ("put", hand, value, begin, end)


def look(hand, picture, begin, end):
    return ("look", hand, picture, begin, end)


# Hand 1 looks while hand 0 puts, and tells the put; hand 2 ended a look ahead of both.
RIGHT = Record(3, (look(2, (None,) * 3, 0, 1), put(0, 7, 2, 8), look(1, (7, None, None), 3, 5)))
# The put of hand 0 never ended, nor did that of hand 1, which nobody saw.
OPEN = Record(3, (put(0, 7, 0, None), put(1, 8, 1, None), look(2, (7, None, None), 3, 5)))


class IsOrderTest(unittest.TestCase):
    def test_a_right_one(self):
        for row in ((0, 1, 2), [0, 1, 2]):
            self.assertIs(is_order(RIGHT, row), True)
        for row in ((0, 2, 1), (1, 0, 2), (2, 1, 0), (1, 2, 0)):
            self.assertIs(is_order(RIGHT, row), False)

    def test_all_that_ended_are_in_it(self):
        for row in ((), (0, 1), (1, 2), (0, 2), [1]):
            self.assertIs(is_order(RIGHT, row), False)
        self.assertIs(is_order(NOTHING, ()), True)
        self.assertIs(is_order(NOTHING, []), True)
        self.assertIs(is_order(NOTHING, (0,)), False)

    def test_each_once(self):
        for row in ((0, 1, 1, 2), (0, 1, 2, 2), (0, 0, 1, 2), (0, 1, 2, 3), (-1, 1, 2)):
            self.assertIs(is_order(RIGHT, row), False)

    def test_puts_that_did_not_end_may_be_left_out(self):
        right = [(0, 2), (0, 2, 1), (0, 1, 2), (1, 0, 2), (2, 0), (2, 0, 1), (2,), (2, 1)]
        self.assertEqual([is_order(OPEN, row) for row in right], [True, True, False, False, False, False, False, False])

    def test_what_ended_ahead_stands_ahead(self):
        record = Record(2, (put(0, 7, 0, 2), put(1, 8, 3, 5), put(0, 9, 4, 6)))
        self.assertEqual([row for row in rows_of(record) if is_order(record, row)], [(0, 1, 2), (0, 2, 1)])

    def test_a_look_with_a_strange_value(self):
        record = Record(1, (put(0, 7, 0, 1), look(0, (8,), 2, 3)))
        self.assertEqual([row for row in rows_of(record) if is_order(record, row)], [])

    def test_other_things(self):
        for thing in strange_things() + [(0, 1, "2"), (0, True, 2), (False, 1, 2), (0, 1, None), (0, 1, [2]), {0: 1, 1: 2},
                                         "012", b"\x00\x01\x02", range(3), (0.0, 1, 2), ((0, 1, 2),), 0, [[0], 1, 2]]:
            for record in (RIGHT, OPEN, NOTHING):
                with self.subTest(repr(thing)):
                    self.assertIs(is_order(record, thing), False)
        self.assertIs(is_order(RIGHT, (0, 1, 2) * 6000), False)
        self.assertIs(is_order(RIGHT, list(range(19000))), False)

    def test_a_list_stays_as_it_was(self):
        row = [0, 1, 2]
        is_order(RIGHT, row)
        self.assertEqual(row, [0, 1, 2])


class OrderOfTest(unittest.TestCase):
    def test_of_no_calls(self):
        self.assertIs(is_order(NOTHING, order_of(NOTHING)), True)

    def test_one_by_one(self):
        counts = {True: 0, False: 0}
        for seed in range(400):
            record = made_up(seed, 1 + seed % 3, 6, slack=1 + seed % 2, stops=4)
            rows = list(rows_of(record))
            right = [row for row in rows if is_right(record, row)]
            with self.subTest(calls=record.calls):
                self.assertEqual([row for row in rows if is_order(record, row)], right)
                found = order_of(record)
                self.assertEqual(found is None, not right)
                self.assertEqual(bar(record) is None, bool(right))
                if found is not None:
                    self.assertIn(tuple(found), right)
                counts[bool(right)] += 1
        self.assertGreater(min(counts.values()), 80)

    def test_puts_that_never_ended(self):
        self.assertIs(is_order(OPEN, order_of(OPEN)), True)
        only = Record(2, (put(0, 7, 0, None), put(1, 8, 1, None)))
        self.assertIs(is_order(only, order_of(only)), True)
        # The put of hand 0 must be there for one look, and is not to be ahead of the other one.
        late = Record(3, (put(0, 7, 0, None), look(1, (7, None, None), 1, 2), look(2, (None,) * 3, 3, 4)))
        self.assertIsNone(order_of(late))
        soon = Record(3, (put(0, 7, 0, None), look(1, (7, None, None), 1, 4), look(2, (None,) * 3, 2, 3)))
        self.assertEqual(list(order_of(soon)), [2, 0, 1])

    def test_the_answer_is_new(self):
        found = order_of(RIGHT)
        again = order_of(RIGHT)
        self.assertEqual(found, again)
        if isinstance(found, list):
            found.clear()
            self.assertEqual(order_of(RIGHT), again)


class PointsTest(unittest.TestCase):
    def test_the_greatest_begin_so_far(self):
        self.assertEqual(points(RIGHT, (0, 1, 2)), [0, 2, 3])
        self.assertEqual(points(RIGHT, [2, 0, 1]), [3, 3, 3])
        self.assertEqual(points(RIGHT, (1, 0)), [2, 2])
        self.assertEqual(points(RIGHT, ()), [])
        self.assertIs(type(points(RIGHT, ())), list)
        self.assertEqual(points(OPEN, (1, 0, 2)), [1, 1, 3])

    def test_an_order_keeps_what_ended_ahead_exactly_if_points_are_below_ends(self):
        for seed in range(40):
            record = made_up(seed, 2, 5)
            for row in rows_of(record):
                pairs = [(a, b) for at, a in enumerate(row) for b in row[at + 1:]]
                calls = record.calls
                keeps = all(calls[b][4] is None or calls[b][4] > calls[a][3] for a, b in pairs)
                below = all(calls[index][4] is None or point < calls[index][4]
                            for index, point in zip(row, points(record, row)))
                self.assertEqual(below, keeps)

    def test_no_order(self):
        for thing in strange_things() + [(0, 0), (3,), (-1,), (0, True), (False,), (None,), ("0",), "", "012", {}, {0: 1},
                                         range(2), 0, None, ([0],), ((0, 1),), (0.0,), b"\x00"]:
            with self.subTest(repr(thing)), self.assertRaises(NoOrder):
                points(RIGHT, thing)
        self.assertRaises(NoOrder, points, NOTHING, (0,))
        self.assertRaises(NoOrder, points, RIGHT, [0] * 20000)

    def test_a_list_stays_as_it_was(self):
        row = [2, 0]
        points(RIGHT, row)
        self.assertEqual(row, [2, 0])


# Each of these records has no bar but this one.
ONE_BAR = {
    "strange": (Record(2, (put(0, 7, 0, 1), look(1, (8, None), 2, 3))), ("strange", 1, 0)),
    "ahead": (Record(2, (look(1, (7, None), 0, 1), put(0, 7, 2, 3))), ("ahead", 0, 1)),
    "old": (Record(2, (put(0, 7, 0, 1), look(1, (None, None), 2, 3))), ("old", 1, 0)),
    "unlike": (Record(4, (put(0, 7, 0, 9), put(1, 8, 1, 10), look(2, (7, None, None, None), 2, 11),
                          look(3, (None, 8, None, None), 3, 12))), ("unlike", 2, 3)),
    "back": (Record(3, (put(0, 7, 0, 9), look(1, (7, None, None), 1, 2), look(2, (None,) * 3, 3, 4))), ("back", 1, 2)),
    "crossed": (Record(3, (look(2, (None, 8, None), 0, 9), put(0, 7, 1, 2), put(1, 8, 3, 4))), ("crossed", 0, 1, 2)),
}


class BarTest(unittest.TestCase):
    def test_each_by_itself(self):
        for word, (record, one) in ONE_BAR.items():
            with self.subTest(word):
                self.assertEqual(bars_by_words(record), [one])
                self.assertIs(is_bar(record, one), True)
                self.assertEqual(bar(record), one)
                self.assertIsNone(order_of(record))
                self.assertIs(has_right_order(record), False)

    def test_none(self):
        for record in (NOTHING, RIGHT, OPEN):
            self.assertIsNone(bar(record))

    def test_all_things_of_the_form_one_by_one(self):
        counts = {word: 0 for word in ONE_BAR}
        for seed in range(250):
            record = made_up(seed, 2 + seed % 2, 7, slack=1 + seed % 4, stops=5)
            right = bars_by_words(record)
            numbers = range(-1, len(record.calls) + 1)
            things = [(word, one, other) for word in ONE_BAR for one in numbers for other in numbers]
            things += [("crossed", look, one, other) for look in numbers for one in numbers for other in numbers]
            with self.subTest(calls=record.calls):
                self.assertEqual(sorted(thing for thing in things if is_bar(record, thing)), sorted(right))
                found = bar(record)
                self.assertTrue(found in right if right else found is None)
                self.assertIs(type(found), tuple if right else type(None))
            for thing in right:
                counts[thing[0]] += 1
        self.assertGreater(min(counts.values()), 10, counts)

    def test_looks_that_tell_strange_values_have_no_other_bar(self):
        record = Record(2, (put(0, 7, 0, 1), look(1, (None, 5), 2, 3), look(1, (None, None), 4, 5)))
        self.assertIs(is_bar(record, ("strange", 1, 1)), True)
        self.assertIs(is_bar(record, ("strange", 1, 0)), False)
        self.assertIs(is_bar(record, ("old", 1, 0)), False)
        self.assertIs(is_bar(record, ("old", 2, 0)), True)
        self.assertIs(is_bar(record, ("back", 1, 2)), False)

    def test_puts_told_behind_the_first_that_began_too_late(self):
        record = Record(2, (look(1, (9, None), 0, 1), put(0, 7, 2, 3), put(0, 9, 4, 5), put(0, 5, 6, 7)))
        self.assertEqual([is_bar(record, ("ahead", 0, at)) for at in range(4)], [False, True, True, False])

    def test_forms(self):
        for record, one in ONE_BAR.values():
            for thing in (list(one), one[:-1], one + (0,), one[1:], one + (None,), (one,), (one[0].upper(),) + one[1:],
                          (one[0].encode(),) + one[1:], (one[0] + " ",) + one[1:], "", one[0], None):
                with self.subTest(repr(thing)):
                    self.assertIs(is_bar(record, thing), False)
            for at in range(1, len(one)):
                for thing in strange_things() + [-1, 9, "0", (0,), float(one[at]), str(one[at])]:
                    if repr(thing) != repr(one[at]):
                        self.assertIs(is_bar(record, one[:at] + (thing,) + one[at + 1:]), False)

    def test_flags_are_no_numbers(self):
        record, one = ONE_BAR["old"]
        self.assertEqual(one, ("old", True, False))
        self.assertIs(is_bar(record, ("old", True, 0)), False)
        self.assertIs(is_bar(record, ("old", 1, False)), False)

    def test_other_things(self):
        for thing in strange_things() + [(), ("old",), ("lie", 1, 0), (0, 1), (None, 1, 0), [], {}, ([], 1, 0), ((), 1, 0)]:
            for record, _ in ONE_BAR.values():
                with self.subTest(repr(thing)):
                    self.assertIs(is_bar(record, thing), False)


if __name__ == "__main__":
    unittest.main()
