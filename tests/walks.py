"""What the tests of steps have in common."""

import unittest

from onepicture.runs import can_step, events, first_standing, next_step, run, run_out, step


class WalkTest(unittest.TestCase):
    def check_same(self, one, other):
        """Equal, and written alike: True and 1 are equal, but not alike."""
        self.assertEqual(one, other)
        self.assertEqual(repr(one), repr(other))

    def check_walk(self, play, first, rows):
        """Rows: the hand, its next step, the cells, the states and what is told behind it."""
        standing, weaving, told_events = first_standing(play), [], []
        self.check_same(standing, first)
        self.check_same(run(play, ()), first)
        for hand, word, *behind in rows:
            with self.subTest(at=len(weaving), hand=hand):
                ahead = repr(standing)
                self.check_same(can_step(play, standing), self.those_going(standing))
                self.check_same(next_step(play, standing, hand), word)
                one, other = step(play, standing, hand), step(play, standing, hand)
                self.check_same(one, tuple(behind))
                self.check_same(other, tuple(behind))
                self.assertEqual(repr(standing), ahead)
                weaving.append(hand)
                told_events.append((hand, word[0], {"put": hand, "see": None}.get(word[0], word[-1])))
                self.check_weaving(play, weaving, tuple(behind), tuple(told_events))
                standing = one
        if can_step(play, standing) == ():
            self.check_same(run_out(play, weaving), tuple(weaving))

    def those_going(self, standing):
        return tuple(hand for hand, state in enumerate(standing[1]) if state is not None)

    def check_weaving(self, play, weaving, behind, told_events):
        kept = list(weaving)
        for form in (weaving, tuple(weaving)):
            self.check_same(run(play, form), behind)
            self.check_same(events(play, form), told_events)
        self.assertEqual(weaving, kept)
