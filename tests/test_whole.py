"""What the document promises over the whole program (0.1 to 0.5), its interface and its examples."""

import importlib
import inspect
import unittest

from onepicture import errors
from onepicture.desks import Desk
from onepicture.errors import PictureError
from onepicture.faults import fault
from onepicture.films import Reel, drawn, drawn_looks, drawn_run, written
from onepicture.moments import bound, is_paper, looks, moments, sweeps
from onepicture.plays import Play, many_hands
from onepicture.records import Record, bar, cut, first_lie, is_bar, is_order, order_of, points, told
from onepicture.runs import can_step, events, first_standing, next_step, run, run_out, step
from onepicture.texts import play_text, read_play, read_record, read_weaving, record_text, weaving_text
from onepicture.weavings import is_wrong, least_wrong, longest, many_standings, many_weavings, outcomes, shrunk
from onepicture.witness import recorded
from tests.samples import nested, strange_things
from tests.test_facts import mixed_weaving

SEE = ("see",)
MANNERS = ("sweep", "twice", "borrow")
SCRIPTS = ((SEE, ("put", 1), SEE), (("put", 4), SEE), (("put", 2), ("put", 6)))
PLAYS = [Play(kind, SCRIPTS) for kind in MANNERS] + [
    Play("levels", (7, 8, 7)), Play("names", (30, 10, 20)), Play("near", (2, (0, 10, -7))),
    Play("chain", ((1,), (), (2, 3))),
]
EXAMPLE = Play("sweep", ((SEE,), (("put", 5),), (("put", 6),)))
EXAMPLE_WEAVING = (0, 0, 1, 2, 0)
TALE = Record(2, (("put", 0, 7, 0, 3), ("look", 1, (7, None), 1, 2), ("look", 1, (None, None), 4, 5)))
INTERFACE = {
    "plays": {"Play": "kind inputs", "many_hands": "play"},
    "runs": {"first_standing": "play", "step": "play standing hand", "run": "play weaving",
             "can_step": "play standing", "next_step": "play standing hand", "events": "play weaving",
             "run_out": "play weaving"},
    "moments": {"looks": "play weaving", "moments": "play weaving", "sweeps": "play weaving",
                "is_paper": "play weaving thing", "bound": "play"},
    "faults": {"fault": "play came told"},
    "weavings": {"many_standings": "play", "many_weavings": "play", "longest": "play", "outcomes": "play",
                 "is_wrong": "play weaving", "least_wrong": "play most", "shrunk": "play weaving"},
    "records": {"Record": "many calls", "told": "record index", "is_order": "record thing", "is_bar": "record thing",
                "order_of": "record", "points": "record order", "bar": "record", "cut": "record moment",
                "first_lie": "record"},
    "witness": {"recorded": "play weaving"},
    "texts": {"play_text": "play", "weaving_text": "weaving", "record_text": "record", "read_play": "text",
              "read_weaving": "text", "read_record": "text"},
    "films": {"Reel": "play weaving every", "written": "thing", "drawn": "play standing",
              "drawn_run": "play weaving", "drawn_looks": "play weaving"},
    "desks": {"Desk": ""},
    "errors": {"PictureError": None, "BadPlay": "part", "NoHand": "", "NoStep": "", "NoWeaving": "index",
               "NoManner": "", "NoCame": "", "NoTold": "", "TooMany": "most", "NoNumber": "", "NotWrong": "",
               "BadRecord": "index", "Unclear": "word", "NoLook": "", "NoOrder": "", "NoMoment": "", "BadText": "line",
               "NoThing": "", "NoLine": "", "NoName": "name"},
}
METHODS = {"Reel": {"stands": "", "standing_now": "", "seek": "at", "kept": "", "worked": "", "copy": ""},
           "Desk": {"tell": "line"}}


def takes(called):
    """The names of what it takes, by position and without defaults."""
    found = [one for one in inspect.signature(called).parameters.values() if one.name != "self"]
    if any(one.default is not one.empty or one.kind != one.POSITIONAL_OR_KEYWORD for one in found):
        return None
    return " ".join(one.name for one in found)


class InterfaceTest(unittest.TestCase):
    def test_each_name_is_defined_in_its_module(self):
        for place, names in INTERFACE.items():
            module = importlib.import_module(f"onepicture.{place}")
            for name, arguments in names.items():
                with self.subTest(place, name=name):
                    found = getattr(module, name)
                    self.assertEqual((found.__module__, found.__name__), (module.__name__, name))
                    if arguments is not None:
                        self.assertEqual(takes(found), arguments)

    def test_methods_are_defined_in_the_class_itself(self):
        for kind in (Reel, Desk):
            for name, arguments in METHODS[kind.__name__].items():
                with self.subTest(kind.__name__, name=name):
                    self.assertEqual(takes(vars(kind)[name]), arguments)
            self.assertEqual(kind.__bases__, (object,))
        for kind in (Play, Record):
            self.assertIn("__eq__", vars(kind))

    def test_the_fact_of_errors(self):
        for name in INTERFACE["errors"]:
            if name != "PictureError":
                self.assertEqual(getattr(errors, name).__bases__, (PictureError,))


class DoorsTest(unittest.TestCase):
    """All doors tell one run alike."""

    def each(self):
        for play in PLAYS:
            for seed in range(3):
                weaving = mixed_weaving(play, seed)
                for many in (0, 1, len(weaving) // 2, len(weaving)):
                    yield play, weaving[:many]

    def desk_of(self, play, weaving):
        desk = Desk()
        self.assertEqual(desk.tell("play x " + play_text(play).replace("\n", "|")), "ok")
        if weaving:
            self.assertEqual(desk.tell(weaving_text(weaving).replace("weaving", "weave x").strip()), "ok")
        return desk

    def test_standings(self):
        for play, weaving in self.each():
            standing, reel, desk = first_standing(play), Reel(play, weaving, 3), self.desk_of(play, ())
            for at, hand in enumerate(weaving):
                word, *cell = next_step(play, standing, hand)
                self.assertEqual(events(play, weaving)[at], (hand, word, {"put": hand, "see": None}.get(word, *cell)))
                sign = drawn_run(play, weaving).split("\n")[hand][at]
                self.assertEqual(sign, {"put": "P", "see": "S"}.get(word) or str(*cell))
                standing = step(play, standing, hand)
                reel.seek(at + 1)
                desk.tell(f"weave x {hand}")
                self.assertEqual(reel.standing_now(), standing)
                self.assertEqual(run(play, weaving[:at + 1]), standing)
                self.assertEqual(desk.tell("view x"), drawn(play, standing).replace("\n", "|"))
                self.assertEqual(desk.tell("can x"), " ".join(map(str, can_step(play, standing))) or "none")
            self.assertEqual(run(play, weaving), standing)
            self.assertEqual(desk.tell("weaving x"), weaving_text(weaving).replace("\n", "|"))

    def test_texts_and_desk(self):
        for play, weaving in self.each():
            again, steps = read_play(play_text(play)), read_weaving(weaving_text(weaving))
            self.assertEqual((again, steps), (play, weaving))
            self.assertEqual(run(again, steps), run(play, weaving))
            desk = self.desk_of(play, weaving)
            self.assertEqual(desk.tell("source x"), play_text(play).replace("\n", "|"))
            self.assertEqual(desk.tell("rows x"), drawn_run(play, weaving).replace("\n", "|"))
            self.assertEqual(desk.tell("steps x"), str(len(weaving)))
            self.assertEqual(desk.tell("wrong x"), "yes" if is_wrong(play, weaving) else "no")
            for hand, row in enumerate(run(play, weaving)[2]):
                self.assertEqual(desk.tell(f"told x {hand}"), written(row))
            desk.tell("out x")
            self.assertEqual(desk.tell("weaving x"), weaving_text(run_out(play, weaving)).replace("\n", "|"))

    def test_pictures_and_faults(self):
        for play, weaving in self.each():
            word = fault(play, tuple(sorted(set(weaving))), run(play, weaving)[2])
            if play.kind not in MANNERS:
                self.assertIs(is_wrong(play, weaving), word is not None)
                continue
            found, firsts = looks(play, weaving), moments(play, weaving)
            self.assertIs(is_wrong(play, weaving), None in firsts)
            self.assertIs(is_paper(play, weaving, firsts), None not in firsts)
            self.assertEqual(len(sweeps(play, weaving)), len(found))
            rows = drawn_looks(play, weaving).split("\n")[:-1]
            self.assertEqual(tuple(row.index("*") if "*" in row else None for row in rows), firsts)
            self.assertEqual([(len(row) - len(row.lstrip(".")), len(row.rstrip(".")) - 1) for row in rows],
                             [look[2:4] for look in found])
            desk = self.desk_of(play, weaving)
            self.assertEqual(desk.tell("when x").replace("-", "None"), " ".join(map(str, firsts)) or "none")
            self.assertEqual(desk.tell("looks x"), drawn_looks(play, weaving).replace("\n", "|") or "none")

    def test_records(self):
        for play, weaving in self.each():
            if play.kind not in MANNERS:
                continue
            record, desk = recorded(play, weaving), self.desk_of(play, weaving)
            self.assertEqual(read_record(record_text(record)), record)
            desk.tell("take y x")
            self.assertEqual(desk.tell("lines y"), record_text(record).replace("\n", "|"))
            self.assertEqual(desk.tell("right y"), "no" if order_of(record) is None else "yes")
            self.assertEqual(desk.tell("lie y"), "none" if first_lie(record) is None else str(first_lie(record)))
            pictures = run(play, weaving)[2]
            for hand in range(many_hands(play)):
                seen = [told(record, at) for at, call in enumerate(record.calls) if call[:2] == ("look", hand)]
                self.assertEqual(seen, [tuple(number for number, _ in picture) for picture in pictures[hand]])
            if play.kind != "sweep":
                self.assertIs(is_order(record, order_of(record)), True)
            # What is cut behind a step is what was recorded then.
            for many in range(1, len(weaving) + 1):
                self.assertEqual(cut(record, 2 * many - 1), recorded(play, weaving[:many]))

    def test_all_weavings(self):
        for play in PLAYS[3:] + [EXAMPLE]:
            if play.kind == "levels":
                play = Play("levels", (7, 8))
            if play.kind == "near":
                play = Play("near", (2, (0, 10)))
            counts, desk = outcomes(play), self.desk_of(play, ())
            self.assertEqual(sum(counts.values()), many_weavings(play))
            self.assertIn(run(play, run_out(play, ()))[2], counts)
            for word, asked in (("count", many_weavings), ("standings", many_standings), ("longest", longest)):
                self.assertEqual(desk.tell(f"{word} x"), str(asked(play)))
            if bound(play) is not None:
                self.assertLessEqual(longest(play), bound(play))
            least = least_wrong(play, 9)
            self.assertEqual(desk.tell("least x 9"), "none" if least is None else weaving_text(least).strip())
        self.assertEqual(shrunk(EXAMPLE, EXAMPLE_WEAVING), least_wrong(EXAMPLE, 9))


class NothingIsChangedTest(unittest.TestCase):
    def asked(self):
        """Calls with what they are passed: lists and dicts, where they may be."""
        standing = run(EXAMPLE, EXAMPLE_WEAVING[:3])
        weaving, order, things = list(EXAMPLE_WEAVING), [0, 1, 2], [[1, {2: [3]}], (4, [5])]
        yield from ((called, (EXAMPLE, weaving)) for called in (
            run, events, run_out, looks, moments, sweeps, is_wrong, shrunk, recorded, drawn_run, drawn_looks))
        yield from ((called, (EXAMPLE,)) for called in (
            many_hands, first_standing, bound, many_standings, many_weavings, outcomes, longest, play_text))
        yield from ((called, (EXAMPLE, standing)) for called in (can_step, drawn))
        yield from ((called, (EXAMPLE, standing, 0)) for called in (step, next_step))
        yield from ((called, (TALE,)) for called in (order_of, bar, first_lie, record_text))
        yield from ((called, (TALE, thing)) for called in (is_order, is_bar) for thing in (order, things, {0: things}))
        yield from ((points, (TALE, order)), (told, (TALE, 1)), (cut, (TALE, 3)), (weaving_text, (weaving,)))
        yield from ((is_paper, (EXAMPLE, weaving, thing)) for thing in (order, things, (0, things)))
        yield from ((order_of, (cut(TALE, moment),)) for moment in range(6))
        yield fault, (EXAMPLE, (0, 1), ((), (), ()))
        yield read_play, (play_text(EXAMPLE),)
        yield read_record, (record_text(TALE),)
        yield read_weaving, ("weaving 0 1\n",)
        yield written, (((1, None), True),)
        yield Record, (2, TALE.calls)
        yield Play, ("sweep", EXAMPLE.inputs)

    def shown(self, thing):
        if isinstance(thing, (Play, Record)):
            return repr(vars(thing))
        return repr(thing)

    def test_what_is_passed_stays_as_it_was_and_answers_are_equal(self):
        for called, passed in self.asked():
            with self.subTest(called.__name__):
                kept = [self.shown(thing) for thing in passed]
                answers = [called(*passed) for _ in range(3)]
                self.assertEqual([self.shown(thing) for thing in passed], kept)
                self.assertEqual(len({self.shown(answer) for answer in answers}), 1)
                if isinstance(answers[0], (list, dict)):
                    self.assertIsNot(answers[0], answers[1])

    def test_whatever_was_done_to_what_was_told(self):
        counts = outcomes(EXAMPLE)
        kept = dict(counts)
        counts.clear()
        self.assertEqual(outcomes(EXAMPLE), kept)
        record = cut(TALE, 3)
        for called in (lambda: order_of(record), lambda: points(record, (0, 1))):
            first = called()
            right = list(first)
            if isinstance(first, list):
                first.append(99)
                first[0] = None
            self.assertEqual(list(called()), right)

    def test_wrong_arguments_stay_as_they_were(self):
        calls = [["put", 0, 1, 0, 1]]
        wrong = {
            "Play": lambda thing: Play("sweep", thing), "kind": lambda thing: Play(thing, ()),
            "step": lambda thing: step(EXAMPLE, first_standing(EXAMPLE), thing),
            "run": lambda thing: run(EXAMPLE, thing), "looks": lambda thing: looks(EXAMPLE, thing),
            "came": lambda thing: fault(EXAMPLE, thing, ()), "told": lambda thing: fault(EXAMPLE, (), thing),
            "least": lambda thing: least_wrong(EXAMPLE, thing), "shrunk": lambda thing: shrunk(EXAMPLE, thing),
            "many": lambda thing: Record(thing, ()), "calls": lambda thing: Record(2, thing),
            "look": lambda thing: told(TALE, thing), "points": lambda thing: points(TALE, thing),
            "cut": lambda thing: cut(TALE, thing), "recorded": lambda thing: recorded(EXAMPLE, thing),
            "play": read_play, "weaving": read_weaving, "record": read_record, "line": Desk().tell,
            "reel": lambda thing: Reel(EXAMPLE, thing, 1), "every": lambda thing: Reel(EXAMPLE, (), thing),
            "seek": Reel(EXAMPLE, EXAMPLE_WEAVING, 2).seek, "written": written,
            "rows": lambda thing: drawn_run(EXAMPLE, thing), "drawn": lambda thing: drawn_looks(EXAMPLE, thing),
        }
        deep = [nested(39, wrap) for wrap in (lambda thing: [thing], lambda thing: (thing,), lambda thing: {1: thing})]
        wide = [[[0]] * 10000, ([0],) * 19999, {at: [at] for at in range(9000)}, "\n" * 20000, "|" * 20000]
        for thing in strange_things() + deep + wide + [[thing] for thing in deep] + [(calls,), calls, (calls, calls)]:
            if thing is None or type(thing) in (int, bool) or thing == ():
                continue
            kept = repr(thing)
            for name, called in wrong.items():
                with self.subTest(name, thing=kept[:60]), self.assertRaises(PictureError):
                    called(thing)
            for is_thing in (lambda thing: is_paper(EXAMPLE, EXAMPLE_WEAVING, thing),
                             lambda thing: is_order(TALE, thing), lambda thing: is_bar(TALE, thing)):
                self.assertIs(is_thing(thing), False)
            self.assertEqual(repr(thing), kept)

    def test_objects_are_equal_to_nothing_of_another_class(self):
        objects = [EXAMPLE, TALE, Desk(), Reel(EXAMPLE, (), 1), errors.NoHand(), errors.BadRecord(1)]
        for at, one in enumerate(objects):
            for other in objects[:at] + objects[at + 1:] + strange_things() + [("sweep", EXAMPLE.inputs), 2]:
                self.assertFalse(one == other)
                self.assertFalse(other == one)
                self.assertTrue(one != other)

    def test_what_was_returned_may_be_passed_on_whatever_its_size(self):
        play = Play("borrow", ((SEE, ("put", 999)) * 3,) * 5)
        weaving = run_out(play, ())
        record = recorded(play, weaving)
        self.assertEqual(read_record(record_text(record)), record)
        self.assertEqual(len(drawn_looks(play, weaving).split("\n")), 31)
        long = Record(8, tuple(("look", at % 8, (10 ** 20 - 1,) * 8, 2 * at, 2 * at + 1) for at in range(300)))
        self.assertGreater(len(record_text(long)), 20000)
        self.assertEqual(read_record(record_text(long)), long)
        desk = Desk()
        desk.tell("record x " + record_text(long).replace("\n", "|"))
        self.assertEqual(desk.tell("lines x"), record_text(long).replace("\n", "|"))


class ExamplesTest(unittest.TestCase):
    def test_e01_and_e02(self):
        at_first = (0, None, None, (), None)
        self.assertEqual(first_standing(EXAMPLE), (((0, 0, None),) * 3, (at_first,) * 3, ((), (), ())))
        self.assertEqual(bound(EXAMPLE), 5)
        self.assertEqual(looks(EXAMPLE, EXAMPLE_WEAVING), ((0, 0, 0, 5, ((0, 0), (0, 0), (1, 6))),))
        self.assertEqual(moments(EXAMPLE, EXAMPLE_WEAVING), (None,))
        self.assertEqual(least_wrong(EXAMPLE, 9), EXAMPLE_WEAVING)

    def test_e03(self):
        play = Play("chain", ((1,), (2,)))
        self.assertEqual((many_standings(play), many_weavings(play), longest(play)), (13, 6, 4))
        self.assertEqual(outcomes(play)[(((1, 2),), ((1, 2),))], 4)

    def test_e04(self):
        play = Play("names", (30, 10))
        self.assertEqual(run_out(play, (0, 1, 0)), (0, 1, 0, 0, 0, 1))
        self.assertEqual(run(play, (0, 1, 0, 0, 0, 1))[2], ((3,), (1,)))
        self.assertEqual(fault(play, (0, 1), ((1,), (1,))), "alike")

    def test_e05_e06_and_e07(self):
        self.assertEqual(run(Play("near", (1, (0, 10))), (0, 0, 1, 1))[2], (((0, 1),), ((10, 1),)))
        self.assertEqual(run(Play("levels", (7,)), (0, 0))[2], ((((0, 7),),),))
        play = Play("borrow", ((SEE,), (("put", 7), ("put", 8))))
        self.assertEqual(bound(play), 20)
        self.assertEqual(events(play, (0, 1)), ((0, "look", 0), (1, "look", 0)))


if __name__ == "__main__":
    unittest.main()
