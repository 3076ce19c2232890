"""Texts of plays, weavings and records (7.1)."""

import random
import re
import unittest

from onepicture.errors import BadPlay, BadRecord, BadText, NoNumber, Unclear
from onepicture.plays import Play
from onepicture.records import Record, cut
from onepicture.runs import run_out
from onepicture.texts import play_text, read_play, read_record, read_weaving, record_text, weaving_text
from onepicture.witness import recorded
from tests.samples import strange_things
from tests.tales import made_up
from tests.test_facts import mixed_weaving

SEE = ("see",)
BIG = 10 ** 20 - 1
PLAYS = {
    "kind sweep\nhand see put 1\nhand put 2\n": Play("sweep", ((SEE, ("put", 1)), (("put", 2),))),
    "kind twice\nhand\n": Play("twice", ((),)),
    "kind twice\nhand\nhand see\nhand\n": Play("twice", ((), (SEE,), ())),
    "kind borrow\nhand put 0 see see put 999 see put 10\nhand\n":
        Play("borrow", ((("put", 0), SEE, SEE, ("put", 999), SEE, ("put", 10)), ())),
    "kind levels\nhand 7\nhand 0\nhand 7\n": Play("levels", (7, 0, 7)),
    "kind names\nhand 30\nhand 10\n": Play("names", (30, 10)),
    "kind near\nrounds 1\nhand 0\nhand 10\n": Play("near", (1, (0, 10))),
    "kind near\nrounds 6\nhand -1000\nhand 1000\nhand -1\nhand 0\nhand -20\n":
        Play("near", (6, (-1000, 1000, -1, 0, -20))),
    "kind chain\nhand 1 2 19\nhand\nhand 0\n": Play("chain", ((1, 2, 19), (), (0,))),
}
WEAVINGS = {"weaving\n": (), "weaving 0\n": (0,), "weaving 0 0 1 2 0\n": (0, 0, 1, 2, 0), "weaving 10 99\n": (10, 99)}
RECORDS = {
    "hands 1\n": Record(1, ()),
    "hands 8\n": Record(8, ()),
    "hands 2\nput 0 7 0 3\nlook 1 1 2 7 -\nput 0 9 5 -\n":
        Record(2, (("put", 0, 7, 0, 3), ("look", 1, (7, None), 1, 2), ("put", 0, 9, 5, None))),
    "hands 3\nlook 2 0 10 - - -\nput 1 0 4 100\nlook 0 20 21 5 0 -\n":
        Record(3, (("look", 2, (None,) * 3, 0, 10), ("put", 1, 0, 4, 100), ("look", 0, (5, 0, None), 20, 21))),
}
NUMBER = "(?:0|[1-9][0-9]{0,19})"
WHOLE = f"(?:{NUMBER}|-[1-9][0-9]{{0,19}})"
SCRIPT = f"hand(?: see| put {NUMBER})*"
HANDS = {"sweep": SCRIPT, "twice": SCRIPT, "borrow": SCRIPT, "levels": f"hand {NUMBER}", "names": f"hand {NUMBER}",
         "near": f"hand {WHOLE}", "chain": f"hand(?: {NUMBER})*"}
CALL = f"put(?: {NUMBER}){{3}} (?:{NUMBER}|-)|look(?: {NUMBER}){{3}}(?: (?:{NUMBER}|-))*"


def bad_line(text, forms, behind):
    """The first line that is bad by these forms, all of which are due, and by that of all behind; None if none is."""
    *lines, rest = text.split("\n")
    for at, line in enumerate(lines):
        form = forms[at] if at < len(forms) else behind
        if form is None or not re.fullmatch(form, line):
            return at + 1
    return len(lines) + 1 if rest or len(lines) < len(forms) else None


def bad_line_of_play(text):
    kind = text.split("\n")[0].removeprefix("kind ")
    hand = HANDS.get(kind, "")
    forms = ["kind (?:" + "|".join(HANDS) + ")"] + [f"rounds {NUMBER}"] * (kind == "near") + [hand]
    return bad_line(text, forms, hand)


def bad_line_of_weaving(text):
    return bad_line(text, [f"weaving(?: {NUMBER})*"], None)


def bad_line_of_record(text):
    return bad_line(text, [f"hands {NUMBER}"], CALL)


ALL = ((read_play, play_text, bad_line_of_play, PLAYS), (read_weaving, weaving_text, bad_line_of_weaving, WEAVINGS),
       (read_record, record_text, bad_line_of_record, RECORDS))


def spoiled(text):
    """Texts with one line changed, mostly to one that has not its form, and the number of this line."""
    *lines, _ = text.split("\n")
    for at, line in enumerate(lines):
        words = line.split(" ")
        rows = [line + " ", " " + line, line + "  1", "x" + line, line + "x", line.upper(), "", " ", line + " x",
                line + " -1", line + " +1", line + " 01", line + " 00", line + " 1" + "0" * 20, line + " 1.0",
                line + " 1_0", line + "\t1", line + " -0", line + " --", line + "\r"]
        rows += [" ".join(words[:place] + [word] + words[place + 1:]) for place, word in (
            (place, word) for place in range(len(words)) for word in ("x", "", "--", "Put", "see1", "-0"))]
        rows += [" ".join(words[:place]) + "  " + " ".join(words[place:]) for place in range(1, len(words))]
        for row in rows:
            yield "\n".join(lines[:at] + [row] + lines[at + 1:]) + "\n", at + 1


class ReadBackTest(unittest.TestCase):
    def test_texts_by_hand(self):
        for _, told, _, pairs in ALL:
            for text, thing in pairs.items():
                self.assertEqual(told(thing), text)
                self.assertIs(type(told(thing)), str)

    def test_read_by_hand(self):
        for read, _, _, pairs in ALL:
            for text, thing in pairs.items():
                found = read(text)
                self.assertEqual(found, thing)
                self.assertIs(type(found), type(thing))
                if not isinstance(thing, tuple):
                    self.assertEqual(repr(vars(found)), repr(vars(thing)))

    def test_weavings_are_lists_or_tuples_and_stay_as_they_were(self):
        weaving = [0, 1, 10]
        self.assertEqual(weaving_text(weaving), "weaving 0 1 10\n")
        self.assertEqual(weaving, [0, 1, 10])
        self.assertEqual(weaving_text([]), "weaving\n")
        self.assertEqual(read_weaving("weaving 0 1 10\n"), (0, 1, 10))

    def test_long_weavings(self):
        weaving = tuple(range(3000))
        self.assertEqual(read_weaving(weaving_text(weaving)), weaving)

    def test_runs_and_their_records(self):
        scripts = ((SEE, ("put", 1), SEE), (("put", 4), SEE, ("put", 2)), (("put", 4), ("put", 5), SEE))
        for kind in ("sweep", "twice", "borrow"):
            play = Play(kind, scripts)
            self.assertEqual(read_play(play_text(play)), play)
            for seed in range(5):
                weaving = mixed_weaving(play, seed)
                self.assertEqual(read_weaving(weaving_text(weaving)), weaving)
                for many in range(0, len(weaving), 3):
                    record = recorded(play, weaving[:many])
                    self.assertEqual(read_record(record_text(record)), record)

    def test_records_that_strangers_tell(self):
        for seed in range(40):
            record = made_up(seed, 1 + seed % 8, 30)
            self.assertEqual(read_record(record_text(record)), record)
            self.assertEqual(record_text(read_record(record_text(record))), record_text(record))
            self.assertEqual(read_record(record_text(cut(record, 40))), cut(record, 40))

    def test_300_calls(self):
        record = made_up(5, 8, 300, slack=0, stops=0)
        self.assertEqual(read_record(record_text(record)), record)

    def test_numbers_of_20_figures(self):
        record = Record(1, (("put", 0, BIG, BIG - 1, BIG),))
        text = f"hands 1\nput 0 {BIG} {BIG - 1} {BIG}\n"
        self.assertEqual((record_text(record), read_record(text)), (text, record))
        self.assertEqual(read_weaving(f"weaving {BIG} 0\n"), (BIG, 0))


class BadTextTest(unittest.TestCase):
    def refuse(self, read, text, line):
        with self.subTest(read.__name__, text=repr(text)[:200]), self.assertRaises(BadText) as caught:
            read(text)
        self.assertEqual(caught.exception.line, line)
        self.assertIs(type(caught.exception.line), int)

    def test_no_string(self):
        for thing in strange_things() + [(), [], ("kind sweep\n", "hand\n"), ["weaving\n"], b"weaving\n", 0]:
            if not isinstance(thing, str):
                for read, _, _, _ in ALL:
                    self.refuse(read, thing, 0)

    def test_strings_that_are_no_texts(self):
        for thing in strange_things() + ["kind", "hand\n", "weaving", "hands 1", "put 0 1 2 3\n", "kind  sweep\nhand\n"]:
            if isinstance(thing, str):
                for read, _, _, _ in ALL:
                    self.refuse(read, thing, 1)
        self.refuse(read_play, "kind sweep", 1)
        for read in (read_play, read_weaving, read_record):
            self.refuse(read, "", 1)
            self.refuse(read, "\n", 1)
            self.refuse(read, "\n\n\n", 1)

    def test_texts_of_others(self):
        for read, _, _, pairs in ALL:
            for other, _, _, _ in ALL:
                if other != read:
                    for text in pairs:
                        self.refuse(other, text, 1)

    def test_lines_of_a_play_one_by_one(self):
        for text, line in {
            "kind\nhand\n": 1, "kind sweeps\nhand\n": 1, "kind sweep sweep\nhand\n": 1, "kinds sweep\nhand\n": 1,
            "kind Sweep\nhand\n": 1, "sweep\nhand\n": 1, " kind sweep\nhand\n": 1, "kind sweep \nhand\n": 1,
            "kind  sweep\nhand\n": 1, "\nkind sweep\nhand\n": 1, "kind near sweep\nrounds 1\nhand 1\n": 1,
            "kind sweep\n": 2, "kind sweep\nhand": 2, "kind sweep\nhands\n": 2, "kind sweep\nhand \n": 2,
            "kind sweep\n hand\n": 2, "kind sweep\nhand  see\n": 2, "kind sweep\nhand put\n": 2,
            "kind sweep\nhand put see\n": 2, "kind sweep\nhand put 1 1\n": 2, "kind sweep\nhand see 1\n": 2,
            "kind sweep\nhand 1\n": 2, "kind sweep\nhand put -\n": 2, "kind sweep\nhand put -1\n": 2,
            "kind sweep\nhand put +1\n": 2, "kind sweep\nhand put 01\n": 2, "kind sweep\nhand look\n": 2,
            "kind sweep\nhand put 1 put\n": 2, "kind sweep\nsee\n": 2, "kind sweep\nput 1\n": 2,
            "kind sweep\nrounds 1\nhand\n": 2, "kind twice\nhand\n\n": 3, "kind twice\nhand\n\nhand\n": 3,
            "kind twice\nhand\nhand seen\nhand x\n": 3, "kind twice\nhand\nhand": 3, "kind twice\nhand\n ": 3,
            "kind twice\nhand\nkind twice\n": 3, "kind twice\nhand x\nhand": 2,
            "kind levels\n": 2, "kind levels\nhand\n": 2, "kind levels\nhand 1 2\n": 2, "kind levels\nhand -1\n": 2,
            "kind levels\nhand 1\nhand\n": 3, "kind levels\nhand see\n": 2, "kind levels\nhand -\n": 2,
            "kind names\nhand\n": 2, "kind names\nhand 1 2\n": 2, "kind names\nhand 00\n": 2,
            "kind near\n": 2, "kind near\nhand 1\n": 2, "kind near\nrounds 1": 2, "kind near\nrounds 1\n": 3,
            "kind near\nrounds\nhand 1\n": 2, "kind near\nrounds 1 2\nhand 1\n": 2, "kind near\nrounds x\nhand 1\n": 2,
            "kind near\nrounds -1\nhand 1\n": 2, "kind near\nrounds 01\nhand 1\n": 2, "kind near\nround 1\nhand 1\n": 2,
            "kind near\nrounds 1\nrounds 1\nhand 1\n": 3, "kind near\nrounds 1\nhand\n": 3,
            "kind near\nrounds 1\nhand 1 2\n": 3, "kind near\nrounds 1\nhand -0\n": 3, "kind near\nrounds 1\nhand -\n": 3,
            "kind near\nrounds 1\nhand -01\n": 3, "kind near\nrounds 1\nhand --1\n": 3,
            "kind near\nrounds 1\nhand +1\n": 3, "kind near\nrounds 1\nhand - 1\n": 3,
            "kind near\nrounds 1\nhand 1-\n": 3, "kind near\nrounds 1\nhand 1\nhand": 4,
            "kind chain\n": 2, "kind chain\nhand -1\n": 2, "kind chain\nhand 1,2\n": 2, "kind chain\nhand 1  2\n": 2,
            "kind chain\nhand 1 2 \n": 2, "kind chain\nhand 1 02\n": 2, "kind chain\nhand 1 -\n": 2,
        }.items():
            self.refuse(read_play, text, line)

    def test_lines_of_a_weaving_one_by_one(self):
        for text, line in {
            "weaving": 1, "weaving 1": 1, "weaving \n": 1, " weaving\n": 1, "weaving  1\n": 1, "weaving 1 \n": 1,
            "weaving 01\n": 1, "weaving 00\n": 1, "weaving -1\n": 1, "weaving -\n": 1, "weaving +1\n": 1,
            "weaving x\n": 1, "weave 1\n": 1, "1 2\n": 1, "weaving,1\n": 1, "weaving 1.0\n": 1, "weaving1\n": 1,
            "weaving 1\n\n": 2, "weaving 1\nweaving 2\n": 2, "weaving 1\nx": 2, "weaving 1\n ": 2,
            "weaving 1\n\n\n": 2, "weaving x\n\n": 1, "\nweaving 1\n": 1, "weaving 1\nx\n": 2,
        }.items():
            self.refuse(read_weaving, text, line)

    def test_lines_of_a_record_one_by_one(self):
        for text, line in {
            "hands\n": 1, "hands 1": 1, "hands 1 1\n": 1, "hands x\n": 1, "hands -\n": 1, "hands -1\n": 1,
            "hands 01\n": 1, "hand 1\n": 1, "hands  1\n": 1, "hands 1 \n": 1, " hands 1\n": 1,
            "put 0 1 2 3\n": 1, "hands 1\n\n": 2, "hands 1\nhands 1\n": 2,
            "hands 1\nput 0 1 2\n": 2, "hands 1\nput 0 1 2 3 4\n": 2, "hands 1\nput 0 1 2 - -\n": 2,
            "hands 1\nput 0 1 - 3\n": 2, "hands 1\nput 0 - 2 3\n": 2, "hands 1\nput - 1 2 3\n": 2,
            "hands 1\nput 0 1 2 --\n": 2, "hands 1\nput 0 1 2 -3\n": 2, "hands 1\nput 0 01 2 3\n": 2,
            "hands 1\nput\n": 2, "hands 1\nputs 0 1 2 3\n": 2, "hands 1\n0 1 2 3\n": 2, "hands 1\nput 0 1 2 3": 2,
            "hands 1\nput  0 1 2 3\n": 2, "hands 1\nput 0 1 2 3 \n": 2, "hands 1\n put 0 1 2 3\n": 2,
            "hands 1\nlook\n": 2, "hands 1\nlook 0 1\n": 2, "hands 1\nlook 0 1 -\n": 2, "hands 1\nlook 0 - 2 1\n": 2,
            "hands 1\nlook - 1 2 1\n": 2, "hands 1\nlook 0 1 2 x\n": 2, "hands 1\nlook 0 1 2 -1\n": 2,
            "hands 1\nlook 0 1 2 00\n": 2, "hands 1\nlook 0 1 2  1\n": 2, "hands 1\nlook 0 1 2 \n": 2,
            "hands 1\nLook 0 1 2 1\n": 2, "hands 1\nsee 0 1 2 1\n": 2, "hands 1\nput 0 1 2 3\n\n": 3,
            "hands 1\nput 0 1 2 3\nx": 3, "hands 1\nput 0 1 2 3\nput 0 1 2 3": 3, "hands 1\nx\ny": 2,
        }.items():
            self.refuse(read_record, text, line)

    def test_numbers_of_21_figures(self):
        long = "1" + "0" * 20
        self.refuse(read_weaving, f"weaving 0 {long}\n", 1)
        self.refuse(read_weaving, "weaving 0" + "0" * 20 + "\n", 1)
        for row in (f"put {long} 1 2 3", f"put 0 {long} 2 3", f"put 0 1 {long} 3", f"put 0 1 2 {long}",
                    f"look {long} 1 2 1", f"look 0 {long} 2 1", f"look 0 1 {long} 1", f"look 0 1 2 {long}"):
            self.refuse(read_record, f"hands 1\n{row}\n", 2)
        self.refuse(read_record, f"hands {long}\n", 1)
        for kind, row in (("sweep", f"put {long}"), ("levels", long), ("names", long), ("chain", f"0 {long}")):
            self.refuse(read_play, f"kind {kind}\nhand {row}\n", 2)
        for sign in ("", "-"):
            self.refuse(read_play, f"kind near\nrounds 1\nhand {sign}{long}\n", 3)
        self.refuse(read_play, f"kind near\nrounds {long}\nhand 1\n", 2)

    def test_the_text_ahead_of_what_it_tells(self):
        self.refuse(read_play, "kind levels\nhand 1000\nhand x\n", 3)
        self.refuse(read_play, "kind names\nhand 1\nhand 1\nhand", 4)
        self.refuse(read_play, "kind sweep\n" + "hand\n" * 9 + "x\n", 11)
        self.refuse(read_record, "hands 9\nput 5 1 0 1\nput 0 1\n", 3)
        self.refuse(read_record, "hands 0\nput 0 1 0 1", 2)

    def test_other_signs_are_no_figures(self):
        for sign in ("\u0661", "\u00b2", "\uff11", "\u2460"):
            self.refuse(read_weaving, f"weaving {sign}\n", 1)
            self.refuse(read_play, f"kind near\nrounds 1\nhand {sign}\n", 3)
        for space in ("\t", "\u00a0", "\r", "\x0b", "\x0c", "\x1c", "\x85", "\u2028"):
            self.refuse(read_weaving, f"weaving{space}1\n", 1)
            self.refuse(read_weaving, f"weaving 1{space}\n", 1)
            self.refuse(read_weaving, f"weaving 1{space}weaving 2\n", 1)

    def check(self, read, bad, text):
        line = bad(text)
        if line is not None:
            self.refuse(read, text, line)
            return True
        try:
            read(text)
        except (BadPlay, NoNumber, BadRecord, Unclear):
            pass
        return False

    def test_one_thing_wrong(self):
        for read, _, bad, pairs in ALL:
            for text in pairs:
                self.assertIsNone(bad(text))
                found = [(other, line) for other, line in spoiled(text) if self.check(read, bad, other)]
                self.assertTrue(all(bad(other) == line for other, line in found))
                self.assertGreater(len(found), 15)

    def test_cut_short(self):
        for read, _, bad, pairs in ALL:
            for text in pairs:
                for many in range(len(text)):
                    self.check(read, bad, text[:many])
                    self.check(read, bad, text[many:])
                    self.check(read, bad, text[:many] + text[many + 1:])

    def test_many_things_wrong(self):
        chance = random.Random(7)
        signs = " \n-0129|xhandseeputlook"
        for read, _, bad, pairs in ALL:
            for text in pairs:
                for _ in range(300):
                    spoilt = text
                    for _ in range(chance.randint(1, 4)):
                        at = chance.randrange(len(spoilt) + 1)
                        spoilt = spoilt[:at] + chance.choice(signs) * chance.randint(0, 2) + spoilt[at + 1:]
                    self.check(read, bad, spoilt)


class RefusedTest(unittest.TestCase):
    def test_bad_play(self):
        for text in (
            "kind sweep\n" + "hand\n" * 6, "kind sweep\nhand" + " see" * 7 + "\n", "kind sweep\nhand put 1000\n",
            f"kind sweep\nhand put {BIG}\n", "kind levels\nhand 1000\n", "kind levels\n" + "hand 1\n" * 6,
            "kind names\nhand 1000\n", "kind names\nhand 1\nhand 1\n", f"kind names\nhand {BIG}\n",
            "kind near\nrounds 0\nhand 1\n", "kind near\nrounds 7\nhand 1\n", f"kind near\nrounds {BIG}\nhand 1\n",
            "kind near\nrounds 1\nhand 1001\n", "kind near\nrounds 1\nhand -1001\n",
            f"kind near\nrounds 1\nhand -{BIG}\n", "kind near\nrounds 1\n" + "hand 1\n" * 6,
            "kind chain\nhand 20\n", "kind chain\nhand 2 1\n", "kind chain\nhand 1 1\n", f"kind chain\nhand {BIG}\n",
        ):
            with self.subTest(text), self.assertRaises(BadPlay) as caught:
                read_play(text)
            self.assertEqual(caught.exception.part, "inputs")

    def test_no_number_comes_first(self):
        for text in ("hands 0\n", "hands 9\n", f"hands {BIG}\n", "hands 0\nput 9 9 9 9\n", "hands 9\nlook 0 2 1\n"):
            with self.subTest(text), self.assertRaises(NoNumber):
                read_record(text)

    def test_bad_record(self):
        for text, index in {
            "hands 1\nput 1 5 0 1\n": 0, "hands 1\nput 0 5 1 1\n": 0, "hands 1\nput 0 5 2 1\n": 0,
            "hands 1\nlook 0 0 1\n": 0, "hands 1\nlook 0 0 1 - -\n": 0, "hands 2\nlook 0 0 1 -\n": 0,
            "hands 1\nlook 1 0 1 -\n": 0, "hands 1\nlook 0 1 0 -\n": 0, "hands 1\nlook 0 1 1 -\n": 0,
            "hands 2\nput 0 5 0 3\nput 1 5 1 2\nlook 1 1 4 - -\n": 2, "hands 2\nput 0 5 0 3\nput 2 5 1 2\nput 9 9 9 9\n": 1,
            "hands 1\n" + "".join(f"put 0 {at} {2 * at} {2 * at + 1}\n" for at in range(301)): -1,
        }.items():
            with self.subTest(text[:80]), self.assertRaises(BadRecord) as caught:
                read_record(text)
            self.assertEqual(caught.exception.index, index)

    def test_unclear(self):
        for text, word in {
            "hands 2\nput 0 1 0 5\nput 1 1 1 5\n": "moments", "hands 2\nput 0 1 0 5\nput 0 2 1 7\n": "hands",
            "hands 1\nput 0 1 0 -\nlook 0 3 4 -\n": "hands", "hands 1\nput 0 1 0 5\nput 0 1 6 -\n": "values",
        }.items():
            with self.subTest(text), self.assertRaises(Unclear) as caught:
                read_record(text)
            self.assertEqual(caught.exception.word, word)


class WholeTextTest(unittest.TestCase):
    def test_weavings_that_were_run_out(self):
        for text, play in PLAYS.items():
            weaving = run_out(play, ())
            self.assertEqual(read_weaving(weaving_text(weaving)), weaving)
            self.assertEqual(run_out(read_play(text), ()), weaving)


if __name__ == "__main__":
    unittest.main()
