"""A desk that works by lines (7.4)."""

import unittest

from onepicture.desks import Desk
from onepicture.errors import (
    BadPlay, BadRecord, BadText, NoHand, NoLine, NoLook, NoManner, NoName, NoNumber, NotWrong, NoWeaving, PictureError,
    TooMany, Unclear,
)
from tests.samples import strange_things

EXAMPLE = "play a kind sweep|hand see|hand put 5|hand put 6|"
RECORD = "record r hands 2|put 0 7 0 3|look 1 1 2 7 -|look 1 4 6 - -|put 0 9 7 -|"
# For each word a line of each form, of a play "a" or a record "r".
PLAY_LINES = ("weave a 0", "back a 1", "out a", "shrink a", "source a", "weaving a", "view a", "rows a", "looks a",
              "steps a", "can a", "told a 0", "when a", "wrong a", "count a", "standings a", "longest a", "least a 9")
RECORD_LINES = ("lines r", "right r", "lie r", "cut r 5", "says r 1")
TAKE = "take r a"


def desk_of(*lines):
    """A desk that was told these lines."""
    desk = Desk()
    for line in lines:
        if desk.tell(line) != "ok":
            raise AssertionError(line)
    return desk


def all_told(desk):
    """What the desk keeps under the names of these tests, as it tells it itself."""
    found = []
    for name in ("a", "b", "r", "s", "long", "abcdefgh"):
        for word in ("source", "weaving", "view", "lines"):
            try:
                found.append(desk.tell(f"{word} {name}"))
            except NoName:
                found.append(None)
    return found


class DeskTest(unittest.TestCase):
    def check(self, desk, *rows):
        """Rows: a line, and its answer."""
        for line, answer in rows:
            with self.subTest(line):
                found = desk.tell(line)
                self.assertEqual(found, answer)
                self.assertIs(type(found), str)

    def refuse(self, error, desk, told, /, **fields):
        ahead = all_told(desk)
        with self.subTest(told=repr(told)[:120]), self.assertRaises(error) as caught:
            desk.tell(told)
        self.assertIs(type(caught.exception), error)
        self.assertEqual(repr(vars(caught.exception)), repr(fields))
        self.assertEqual(all_told(desk), ahead)


class PlaysTest(DeskTest):
    def test_the_example(self):
        desk = Desk()
        self.check(
            desk, (EXAMPLE, "ok"), ("source a", "kind sweep|hand see|hand put 5|hand put 6|"),
            ("weaving a", "weaving|"), ("steps a", "0"), ("can a", "0 1 2"), ("told a 0", "()"),
            ("when a", "none"), ("wrong a", "no"),
            ("view a", "0: (0,0,-) (0,-,-,(),-) ()|1: (0,0,-) (0,-,-,(),-) ()|2: (0,0,-) (0,-,-,(),-) ()|"),
            ("rows a", "|||"), ("looks a", "none"), ("count a", "20"), ("standings a", "23"), ("longest a", "5"),
            ("least a 9", "weaving 0 0 1 2 0"), ("least a 5", "weaving 0 0 1 2 0"), ("least a 4", "none"),
            ("weave a 0 0 1", "ok"), ("weaving a", "weaving 0 0 1|"), ("can a", "0 2"), ("weave a 2", "ok"),
            ("can a", "0"), ("wrong a", "no"), ("weave a 0", "ok"), ("steps a", "5"), ("can a", "none"),
            ("weaving a", "weaving 0 0 1 2 0|"), ("told a 0", "(((0,0),(0,0),(1,6)))"), ("told a 1", "()"),
            ("when a", "-"), ("wrong a", "yes"), ("rows a", "01..2|..P..|...P.|"), ("looks a", "------|"),
            ("view a", "0: (0,0,-) - (((0,0),(0,0),(1,6)))|1: (1,5,-) - ()|2: (1,6,-) - ()|"),
            ("count a", "20"), ("standings a", "23"), ("longest a", "5"), ("source a", EXAMPLE[7:]),
        )

    def test_back(self):
        desk = desk_of(EXAMPLE, "weave a 0 0 1 2 0")
        self.check(desk, ("back a 0", "ok"), ("weaving a", "weaving 0 0 1 2 0|"), ("back a 1", "ok"),
                   ("weaving a", "weaving 0 0 1 2|"), ("back a 3", "ok"), ("weaving a", "weaving 0|"),
                   ("back a 2", "ok"), ("weaving a", "weaving|"), ("back a 1", "ok"), ("weaving a", "weaving|"),
                   ("weave a 1 2", "ok"), ("back a 2", "ok"), ("weaving a", "weaving|"), ("weave a 1 2", "ok"),
                   ("back a " + "9" * 20, "ok"), ("weaving a", "weaving|"), ("weave a 1 2 0 0", "ok"),
                   ("back a 5", "ok"), ("weaving a", "weaving|"), ("weave a 1 2 0", "ok"), ("back a 4", "ok"),
                   ("weaving a", "weaving|"))

    def test_out(self):
        desk = desk_of(EXAMPLE, "weave a 2 0")
        self.check(desk, ("out a", "ok"), ("weaving a", "weaving 2 0 0 0 1|"), ("out a", "ok"),
                   ("weaving a", "weaving 2 0 0 0 1|"), ("when a", "1"), ("wrong a", "no"), ("can a", "none"))
        self.check(desk_of("play b kind names|hand 30|hand 10|", "weave b 0 1 0", "out b"),
                   ("weaving b", "weaving 0 1 0 0 0 1|"), ("told b 0", "(3)"), ("told b 1", "(1)"))

    def test_shrink(self):
        lines = ("play a kind sweep|hand put 1 see|hand put 5|hand put 6 see|", "weave a 0 0 0 1 2 2 0")
        desk = desk_of(*lines)
        self.check(desk, ("wrong a", "yes"), ("shrink a", "ok"), ("weaving a", "weaving 0 0 0 1 2 0|"),
                   ("wrong a", "yes"), ("shrink a", "ok"), ("weaving a", "weaving 0 0 0 1 2 0|"))

    def test_names_of_other_kinds_of_play(self):
        desk = desk_of("play a kind levels|hand 7|", "play b kind near|rounds 1|hand 0|hand -10|",
                       "play long kind chain|hand 1|hand 2|", "play abcdefgh kind borrow|hand see|hand put 7 put 8|")
        self.check(
            desk, ("out a", "ok"), ("told a 0", "(((0,7)))"), ("view a", "0: (1,7) - (((0,7)))|"), ("rows a", "P0|"),
            ("weave b 0 1 1", "ok"), ("view b", "0: (0) (0,0,yes) ()|1: (-10) - ((-10,1))|"), ("told b 1", "((-10,1))"),
            ("rows b", "P..|.PS|"), ("source b", "kind near|rounds 1|hand 0|hand -10|"), ("can b", "0"),
            ("weave long 0 1 1 0", "ok"), ("told long 0", "((1,2))"), ("told long 1", "((1,2))"),
            ("wrong long", "no"), ("count long", "6"), ("standings long", "13"), ("longest long", "4"),
            ("least long 40", "none"),
            ("weave abcdefgh 0 0 1 1 1 1 1 1 1 1 1 1 0 0", "ok"), ("when abcdefgh", "2 7 7"),
            ("looks abcdefgh", "..*****........|.......*****...|-------*****---|"), ("wrong abcdefgh", "no"),
            ("told abcdefgh 0", "(((0,0),(1,7)))"), ("back abcdefgh 2", "ok"), ("when abcdefgh", "2 7"),
        )

    def test_a_play_in_the_place_of_an_elder_one(self):
        desk = desk_of(EXAMPLE, "weave a 0 0 1", "play b kind chain|hand 1|", "weave b 0")
        self.check(desk, ("play a kind levels|hand 7|", "ok"), ("source a", "kind levels|hand 7|"),
                   ("weaving a", "weaving|"), ("steps a", "0"), ("weaving b", "weaving 0|"), (EXAMPLE, "ok"),
                   ("weaving a", "weaving|"), ("source a", EXAMPLE[7:]))

    def test_desks_are_apart(self):
        one, other = desk_of(EXAMPLE, "weave a 0"), desk_of(EXAMPLE)
        self.check(other, ("weaving a", "weaving|"), ("weave a 1 2", "ok"))
        self.check(one, ("weaving a", "weaving 0|"))
        self.refuse(NoName, Desk(), "weaving a", name="a")
        self.assertFalse(one == other)
        self.assertFalse(one == "ok")


class RecordsTest(DeskTest):
    def test_a_record(self):
        desk = desk_of(RECORD)
        self.check(
            desk, ("lines r", RECORD[9:]), ("right r", "no"), ("lie r", "6"), ("says r 1", "1 0"), ("says r 2", "0 0"),
            ("cut r 6", "ok"), ("lines r", "hands 2|put 0 7 0 3|look 1 1 2 7 -|look 1 4 6 - -|"), ("lie r", "6"),
            ("cut r 5", "ok"), ("lines r", "hands 2|put 0 7 0 3|look 1 1 2 7 -|"), ("right r", "yes"),
            ("lie r", "none"),
            ("cut r 2", "ok"), ("lines r", "hands 2|put 0 7 0 -|look 1 1 2 7 -|"), ("right r", "yes"),
            ("cut r 0", "ok"), ("lines r", "hands 2|put 0 7 0 -|"), ("cut r " + "9" * 20, "ok"),
            ("lines r", "hands 2|put 0 7 0 -|"), (RECORD, "ok"), ("lines r", RECORD[9:]),
        )

    def test_strange_values_are_said_as_none(self):
        self.check(desk_of("record r hands 3|put 0 5 0 1|look 2 2 3 5 6 -|"),
                   ("says r 1", "1 - 0"), ("right r", "no"), ("lie r", "3"))

    def test_a_record_without_calls(self):
        self.check(desk_of("record r hands 8|"), ("lines r", "hands 8|"), ("right r", "yes"), ("lie r", "none"),
                   ("cut r 0", "ok"), ("lines r", "hands 8|"))

    def test_take(self):
        desk = desk_of(EXAMPLE, "weave a 0 0 1 2 0", "take r a", "back a 3")
        taken = "hands 3|look 0 0 9 - - 1|put 1 1 4 5|put 2 1 6 7|"
        self.check(desk, ("lines r", taken), ("right r", "no"), ("lie r", "9"), ("says r 0", "0 0 1"),
                   ("take s a", "ok"), ("lines s", "hands 3|"), ("lines r", taken), ("take r a", "ok"),
                   ("lines r", "hands 3|"))

    def test_plays_and_records_have_names_of_their_own(self):
        desk = desk_of(EXAMPLE, "record a hands 1|", "weave a 1", "take b a")
        self.check(desk, ("source a", EXAMPLE[7:]), ("lines a", "hands 1|"), ("lines b", "hands 3|put 1 1 0 1|"),
                   ("take a a", "ok"), ("lines a", "hands 3|put 1 1 0 1|"), ("weaving a", "weaving 1|"))
        self.refuse(NoName, desk, "source b", name="b")
        desk = desk_of(RECORD)
        for line in PLAY_LINES:
            self.refuse(NoName, desk, line.replace(" a", " r"), name="r")
        desk = desk_of(EXAMPLE)
        for line in RECORD_LINES:
            self.refuse(NoName, desk, line.replace(" r", " a"), name="a")


class NoLineTest(DeskTest):
    def setUp(self):
        self.desk = desk_of(EXAMPLE, "weave a 0 0 1 2", RECORD)

    def test_no_string(self):
        for thing in strange_things() + [("steps", "a"), ["steps a"], b"steps a", None, 0, (), Desk()]:
            self.refuse(NoLine, self.desk, thing)

    def test_a_line_feed(self):
        for line in PLAY_LINES + RECORD_LINES + (EXAMPLE, RECORD, TAKE):
            for other in (line + "\n", "\n" + line, line.replace(" ", "\n", 1), line[:9] + "\n" + line[9:]):
                self.refuse(NoLine, self.desk, other)
        self.refuse(NoLine, self.desk, EXAMPLE.replace("|", "\n"))
        self.refuse(NoLine, self.desk, "steps x\n")

    def test_words_left_out_and_one_more(self):
        for line in PLAY_LINES + RECORD_LINES + (TAKE,):
            words = line.split(" ")
            for at in range(len(words)):
                self.refuse(NoLine, self.desk, " ".join(words[:at] + words[at + 1:]))
            for more in ("", "x", "-1", "1.0", "01", "a b"):
                self.refuse(NoLine, self.desk, f"{line} {more}")
            if words[0] != "weave":
                self.refuse(NoLine, self.desk, line + " 1")
                self.refuse(NoLine, self.desk, line + " 0 0")

    def test_blanks(self):
        for line in PLAY_LINES + RECORD_LINES + (TAKE,):
            for other in (" " + line, line + " ", line.replace(" ", "  ", 1), line.replace(" ", "\t", 1), line + "\r"):
                self.refuse(NoLine, self.desk, other)
        for line in (EXAMPLE, RECORD):
            self.refuse(NoLine, self.desk, " " + line)
            self.refuse(NoLine, self.desk, line.replace(" ", "  ", 1))
        for line in ("weave a  0", "weave a 0  1", "weave a 0 1 ", "back a  1", "take r  a", "told a  0", ""):
            self.refuse(NoLine, self.desk, line)

    def test_other_words(self):
        for line in PLAY_LINES + RECORD_LINES + (EXAMPLE, RECORD, TAKE):
            for word in ("x", "", "told_", "Steps", "plays", "step", "kind", "|"):
                self.refuse(NoLine, self.desk, " ".join([word] + line.split(" ")[1:]))
        for line in ("play", "play ", "play a", "play a ", "record", "record ", "record r", "record r ", " ", "a"):
            self.refuse(NoLine, self.desk, line)

    def test_names(self):
        for line in PLAY_LINES + RECORD_LINES + (EXAMPLE, RECORD, TAKE):
            word, _, rest = line.partition(" ")
            for name in ("abcdefghi", "A", "a1", "a_", "1", "", "-", "|", "\u00e4", "aA", "a,b", "sTeps"):
                self.refuse(NoLine, self.desk, " ".join([word, name] + rest.split(" ")[1:]))
        for name in ("abcdefghi", "A", "a1", "", "a b", "a|"):
            self.refuse(NoLine, self.desk, f"take r {name}")
            self.refuse(NoLine, self.desk, f"take x {name}")
        for name in ("a", "z", "zz", "abcdefgh", "steps", "play", "record", "take", "none"):
            self.check(self.desk, (f"play {name} kind levels|hand 7|", "ok"), (f"steps {name}", "0"))
            self.check(self.desk, (f"record {name} hands 1|", "ok"), (f"lines {name}", "hands 1|"))

    def test_numbers(self):
        for line in ("weave a {}", "weave a 0 {}", "weave a {} 0", "back a {}", "told a {}", "least a {}", "cut r {}",
                     "says r {}"):
            for number in ("-1", "+1", "01", "00", "-0", "1.0", "1_0", "x", "-", "", "0x1", "1" + "0" * 20, "0" * 21,
                           "\u0661", "\u00b2", "1,2", "yes"):
                self.refuse(NoLine, self.desk, line.format(number))
        big = "9" * 20
        self.refuse(NoWeaving, self.desk, f"weave a {big}", index=4)
        self.refuse(NoHand, self.desk, f"told a {big}")
        self.refuse(NoNumber, self.desk, f"least a {big}")
        self.refuse(NoLook, self.desk, f"says r {big}")
        self.check(self.desk, (f"cut r {big}", "ok"), ("lines r", RECORD[9:]), (f"back a {big}", "ok"))

    def test_it_comes_ahead_of_no_name(self):
        for line in ("steps x y", "weave x", "weave x -1", "back x", "told x 01", "take r X", "take x", "says x -",
                     "play x", "lines x x", "cut x 1 2", "nothing x"):
            self.refuse(NoLine, self.desk, line)


class NoNameTest(DeskTest):
    def test_nothing_is_kept(self):
        for desk in (Desk(), desk_of("play b kind levels|hand 7|", "record s hands 1|")):
            for line in PLAY_LINES:
                self.refuse(NoName, desk, line, name="a")
            for line in RECORD_LINES:
                self.refuse(NoName, desk, line, name="r")
            self.refuse(NoName, desk, TAKE, name="a")
            self.refuse(NoName, desk, "take x abcdefgh", name="abcdefgh")

    def test_take_asks_for_the_play_alone(self):
        desk = desk_of(RECORD)
        self.refuse(NoName, desk, "take r a", name="a")
        self.refuse(NoName, desk, "take r r", name="r")
        self.check(desk, (EXAMPLE, "ok"), ("take x a", "ok"), ("lines x", "hands 3|"))

    def test_it_comes_ahead_of_what_the_functions_raise(self):
        desk = desk_of(EXAMPLE)
        self.refuse(NoName, desk, "weave b 9", name="b")
        self.refuse(NoName, desk, "told b 9", name="b")
        self.refuse(NoName, desk, "least b 99", name="b")
        self.refuse(NoName, desk, "shrink b", name="b")
        self.refuse(NoName, desk, "says r 99", name="r")

    def test_a_line_that_was_refused_keeps_nothing(self):
        desk = Desk()
        self.refuse(BadText, desk, "play a x", line=1)
        self.refuse(BadPlay, desk, "play a kind levels|hand 1000|", part="inputs")
        self.refuse(BadText, desk, "record r x", line=1)
        self.refuse(NoName, desk, "steps a", name="a")
        self.refuse(NoName, desk, "lines r", name="r")


class FunctionsTest(DeskTest):
    def test_texts_of_plays(self):
        desk = desk_of(EXAMPLE, "weave a 0 0")
        for text, line in (("x", 1), ("|", 1), (" kind sweep|hand|", 1), ("kind sweep", 1), ("kind sweep|", 2),
                           ("kind sweep|hand", 2), ("kind sweep|hand| ", 3), ("kind sweep|hand||", 3),
                           ("kind sweep|hand see|hand see 1|", 3), ("kind near|hand 1|", 2), (" ", 1)):
            self.refuse(BadText, desk, f"play a {text}", line=line)
            self.refuse(BadText, desk, f"play b {text}", line=line)
        self.refuse(BadPlay, desk, "play a kind chain|hand 2 1|", part="inputs")
        self.refuse(BadPlay, desk, "play a kind sweep|" + "hand|" * 6, part="inputs")
        self.check(desk, ("weaving a", "weaving 0 0|"))

    def test_texts_of_records(self):
        desk = desk_of(RECORD)
        self.refuse(BadText, desk, "record r hands 2", line=1)
        self.refuse(BadText, desk, "record r hands 2|put 0 1 2|", line=2)
        self.refuse(BadText, desk, "record r kind sweep|hand|", line=1)
        self.refuse(NoNumber, desk, "record r hands 9|")
        self.refuse(BadRecord, desk, "record r hands 1|put 1 1 1 2|", index=0)
        self.refuse(Unclear, desk, "record r hands 2|put 0 1 0 5|put 1 1 1 5|", word="moments")
        self.check(desk, ("lines r", RECORD[9:]))

    def test_no_weaving_tells_the_place_in_the_whole_weaving(self):
        desk = desk_of(EXAMPLE)
        self.refuse(NoWeaving, desk, "weave a 3", index=0)
        self.check(desk, ("weave a 0 1", "ok"))
        self.refuse(NoWeaving, desk, "weave a 0 2 1 0", index=4)
        self.refuse(NoWeaving, desk, "weave a 9", index=2)
        self.check(desk, ("weaving a", "weaving 0 1|"), ("weave a 0 2 0", "ok"))
        self.refuse(NoWeaving, desk, "weave a 0", index=5)

    def test_no_manner(self):
        desk = desk_of("play a kind levels|hand 7|", RECORD)
        for line in ("looks a", "when a", "take r a", "take s a"):
            self.refuse(NoManner, desk, line)

    def test_other_errors(self):
        desk = desk_of(EXAMPLE, RECORD, "play long kind levels|hand 1|hand 2|hand 3|hand 4|hand 5|")
        self.refuse(NotWrong, desk, "shrink a")
        self.check(desk, ("out a", "ok"))
        self.refuse(NotWrong, desk, "shrink a")
        for hand in (3, 4, 99):
            self.refuse(NoHand, desk, f"told a {hand}")
        self.refuse(NoNumber, desk, "least a 41")
        self.check(desk, ("least a 40", "weaving 0 0 1 2 0"), ("least a 0", "none"))
        for index in (0, 3, 4, 5, 99):
            self.refuse(NoLook, desk, f"says r {index}")
        for line in ("count long", "standings long", "longest long", "least long 40"):
            self.refuse(TooMany, desk, line, most=20000)

    def test_equal_lines_equal_answers(self):
        lines = [line for line in PLAY_LINES + RECORD_LINES if line.split(" ")[0] not in ("weave", "back", "cut")]
        desk = desk_of(EXAMPLE, "weave a 0 0 1 2 0", RECORD)
        answers = [desk.tell(line) for line in lines]
        self.assertEqual([desk.tell(line) for line in lines], answers)
        self.assertEqual([desk.tell(line) for line in reversed(lines)], answers[::-1])
        again = desk_of(EXAMPLE, "weave a 0 0", RECORD, "weave a 1 2 0")
        self.assertEqual([again.tell(line) for line in lines], answers)
        self.assertTrue(issubclass(NoLine, PictureError))


if __name__ == "__main__":
    unittest.main()
