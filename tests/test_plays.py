import unittest

from onepicture.errors import BadPlay
from onepicture.plays import Play, many_hands
from tests.samples import strange_things

SEE = ("see",)
KINDS = ("sweep", "twice", "borrow", "levels", "names", "near", "chain")
MANNERS = KINDS[:3]

# For each kind inputs of one hand, the least there are, and of five hands with what is just within the bounds.
WHOLE_SCRIPT = (("put", 0), SEE, ("put", 999), SEE, SEE, ("put", 1))
ONE_HAND = {
    "sweep": ((),), "twice": ((),), "borrow": ((),), "levels": (0,), "names": (0,), "near": (1, (-1000,)),
    "chain": ((),),
}
FIVE_HANDS = {
    "sweep": ((), (SEE,), (("put", 999),), WHOLE_SCRIPT, WHOLE_SCRIPT),
    "twice": (WHOLE_SCRIPT,) * 5,
    "borrow": (WHOLE_SCRIPT, (), (), (), WHOLE_SCRIPT),
    "levels": (0, 999, 999, 0, 5),
    "names": (999, 0, 1, 998, 500),
    "near": (6, (1000, -1000, 0, 1000, -1)),
    "chain": ((), (0,), (19,), tuple(range(20)), (0, 19)),
}

WRONG_DEEDS = [
    (), ("see", 1), ("see", None), ("put",), ("put", 1000), ("put", -1), ("put", True), ("put", False), ("put", "1"),
    ("put", None), ("put", 1, 2), ("look", 0), "see", "put", ["see"], ["put", 1], ("puts", 1), (b"see",),
    (b"put", 1), ("", 1), ("SEE",), ("put", (1,)), ("put", [1]), ("put", 10 ** 19), (SEE,), (1, "put"), (1,), (None,),
    ("put", 1.0), (["see"],), (("put",), 1),
]
WRONG_SCRIPTS = [[], [SEE], (SEE,) * 7, ("see",), ("put", 1), WHOLE_SCRIPT + (SEE,), "see", {}, range(0)]
WRONG_VALUES = [-1, 1000, True, False, None, "1", (1,), [1], 10 ** 19, -10 ** 19, 1.0, b"1", ()]
WRONG_NEARS = [-1001, 1001, True, False, None, "1", (1,), [1], 10 ** 19, -10 ** 19, 0.0, ()]
WRONG_ROUNDS = [0, 7, -1, True, False, None, "1", (1,), [1], 10 ** 19, 2.0, ()]
WRONG_LOTS = [
    (1, 0), (0, 0), (0, 1, 1), (3, 3, 4), (0, 2, 1), (20,), (0, 20), (-1,), (-1, 0), (True,), (False, 1), (0, True),
    ("1",), (None,), ((1,),), ([],), [], [1], range(3), "", b"", {}, 0, None, (10 ** 19,), (1.0,), tuple(range(21)),
]


class GoodPlaysTest(unittest.TestCase):
    def test_attributes_are_what_was_passed(self):
        for table in (ONE_HAND, FIVE_HANDS):
            for kind in KINDS:
                with self.subTest(kind):
                    play = Play(kind, table[kind])
                    self.assertEqual(play.kind, kind)
                    self.assertEqual(repr(play.inputs), repr(table[kind]))

    def test_many_hands(self):
        for kind in KINDS:
            with self.subTest(kind):
                self.assertEqual(many_hands(Play(kind, ONE_HAND[kind])), 1)
                self.assertEqual(many_hands(Play(kind, FIVE_HANDS[kind])), 5)
        self.assertEqual(many_hands(Play("near", (6, (3, 4, 5)))), 3)
        self.assertEqual(many_hands(Play("levels", (3, 4))), 2)

    def test_values_at_the_bounds(self):
        for value in (0, 1, 998, 999):
            for kind in MANNERS:
                Play(kind, ((("put", value),),))
            Play("levels", (value,))
            Play("names", (value,))
        for value in (-1000, -999, -1, 0, 1, 999, 1000):
            Play("near", (1, (value,)))

    def test_rounds_at_the_bounds(self):
        for rounds in (1, 2, 5, 6):
            self.assertEqual(Play("near", (rounds, (0,))).inputs, (rounds, (0,)))

    def test_values_may_be_alike_but_in_names(self):
        Play("levels", (1, 1, 1))
        Play("near", (1, (1, 1)))
        Play("chain", ((1,), (1,)))


class BadPlaysTest(unittest.TestCase):
    def refuse(self, part, kind, inputs):
        with self.subTest(kind=repr(kind), inputs=repr(inputs)):
            with self.assertRaises(BadPlay) as caught:
                Play(kind, inputs)
            self.assertEqual(caught.exception.part, part)

    def test_strange_kinds(self):
        for kind in strange_things() + ["manners", ("sweep",), ["sweep"], ["near"]]:
            self.refuse("kind", kind, ((),))
            self.refuse("kind", kind, None)

    def test_the_kind_is_judged_ahead_of_the_inputs(self):
        for inputs in strange_things():
            self.refuse("kind", "chains", inputs)

    def test_strange_inputs(self):
        for kind in KINDS:
            for inputs in strange_things():
                self.refuse("inputs", kind, inputs)

    def test_strange_things_of_one_hand(self):
        right = {"levels": (5,), "names": (5,), "near": (-1, 5, 1000)}
        for kind in KINDS:
            for thing in strange_things():
                if type(thing) is int and thing in right.get(kind, ()):
                    continue
                self.refuse("inputs", kind, (1, (0, thing)) if kind == "near" else (FIVE_HANDS[kind][1], thing))

    def test_no_hand_and_six_hands(self):
        for kind in KINDS:
            one, five = ONE_HAND[kind], FIVE_HANDS[kind]
            if kind == "near":
                self.refuse("inputs", kind, (1, ()))
                self.refuse("inputs", kind, (6, five[1] + (7,)))
            else:
                self.refuse("inputs", kind, ())
                self.refuse("inputs", kind, five + ((7,) if kind == "names" else one))

    def test_a_list_for_a_tuple(self):
        for kind in KINDS:
            self.refuse("inputs", kind, list(ONE_HAND[kind]))
            self.refuse("inputs", kind, list(FIVE_HANDS[kind]))

    def test_wrong_scripts_and_deeds(self):
        for kind in MANNERS:
            for script in WRONG_SCRIPTS:
                self.refuse("inputs", kind, (script,))
                self.refuse("inputs", kind, ((SEE,), script))
            for deed in WRONG_DEEDS:
                self.refuse("inputs", kind, ((deed,),))
                self.refuse("inputs", kind, ((), (SEE, deed, SEE)))

    def test_wrong_values(self):
        for kind in ("levels", "names"):
            for value in WRONG_VALUES:
                self.refuse("inputs", kind, (value,))
                self.refuse("inputs", kind, (2, value, 3))

    def test_old_names_alike(self):
        self.refuse("inputs", "names", (7, 7))
        self.refuse("inputs", "names", (0, 1, 2, 3, 0))

    def test_wrong_nears(self):
        for value in WRONG_NEARS:
            self.refuse("inputs", "near", (1, (value,)))
            self.refuse("inputs", "near", (1, (0, value)))
        for rounds in WRONG_ROUNDS:
            self.refuse("inputs", "near", (rounds, (0, 1)))
        for inputs in [(1,), (1, (0,), 0), (1, [0]), ((0,), 1), (1, 0), (1, range(2)), (0, 1), ((1, (0,)),), (1, "00")]:
            self.refuse("inputs", "near", inputs)

    def test_wrong_lots(self):
        for lot in WRONG_LOTS:
            self.refuse("inputs", "chain", (lot,))
            self.refuse("inputs", "chain", ((0, 19), lot))

    def test_inputs_of_other_kinds(self):
        scripts, numbers, near, lots = ((SEE,), ()), (1, 2), (1, (0, 2)), ((1, 2), (3,))
        for kind in MANNERS:
            for inputs in (numbers, near, lots):
                self.refuse("inputs", kind, inputs)
        for kind in ("levels", "names"):
            for inputs in (scripts, near, lots):
                self.refuse("inputs", kind, inputs)
        for inputs in (scripts, numbers, lots):
            self.refuse("inputs", "near", inputs)
        for inputs in (scripts, numbers, near):
            self.refuse("inputs", "chain", inputs)

    def test_very_many_things(self):
        many = tuple(range(20000))
        for kind in KINDS:
            for inputs in (many, (many,), (1, many), ((many,),)):
                self.refuse("inputs", kind, inputs)

    def test_what_is_passed_stays_as_it_was(self):
        inputs = [[["see"]], {"put": [1]}]
        for kind in KINDS:
            self.refuse("inputs", kind, inputs)
        self.assertEqual(inputs, [[["see"]], {"put": [1]}])


class EqualPlaysTest(unittest.TestCase):
    def test_equal_if_kind_and_inputs_are(self):
        for table in (ONE_HAND, FIVE_HANDS):
            for kind in KINDS:
                with self.subTest(kind):
                    one, other = Play(kind, table[kind]), Play("".join(list(kind)), table[kind])
                    self.assertTrue(one == other)
                    self.assertFalse(one != other)

    def test_unequal_if_one_of_them_is(self):
        plays = [Play(kind, table[kind]) for table in (ONE_HAND, FIVE_HANDS) for kind in KINDS]
        for at, one in enumerate(plays):
            for other in plays[:at]:
                self.assertFalse(one == other)
                self.assertTrue(one != other)
        self.assertFalse(Play("levels", (1, 2)) == Play("levels", (2, 1)))
        self.assertFalse(Play("sweep", ((),)) == Play("chain", ((),)))
        self.assertFalse(Play("near", (1, (0,))) == Play("near", (2, (0,))))

    def test_equal_to_nothing_of_another_class_or_kind(self):
        class Likeness:
            kind = "levels"
            inputs = (1,)

            def __eq__(self, other):
                return True

        class Lower(Play):
            pass

        play = Play("levels", (1,))
        for thing in strange_things() + ["levels", (1,), ("levels", (1,)), Likeness(), Lower("levels", (1,))]:
            with self.subTest(repr(thing)):
                self.assertIs(play == thing, False)
                self.assertIs(play != thing, True)
        self.assertFalse(Lower("levels", (1,)) == play)


if __name__ == "__main__":
    unittest.main()
