"""Texts of plays, weavings and records, and how they are read (7.1)."""

from onepicture.errors import BadText
from onepicture.plays import KINDS, MANNERS, Play
from onepicture.records import Record
from onepicture.words import number_in, numbers_in, values_in, whole_in, word_of


def play_text(play):
    """The text of the play: a line of its kind, one of its rounds if it has some, one for each hand."""
    rows = [["kind", play.kind]]
    inputs = play.inputs
    if play.kind == "near":
        rounds, inputs = play.inputs
        rows.append(["rounds", str(rounds)])
    rows.extend([["hand"] + words_of_input(play.kind, item) for item in inputs])
    return text_of(rows)


def weaving_text(weaving):
    """The text of the weaving: one line."""
    return text_of([["weaving"] + [str(hand) for hand in weaving]])


def record_text(record):
    """The text of the record: a line of how many hands it has, one for each call."""
    return text_of([["hands", str(record.many)]] + [words_of_call(call) for call in record.calls])


def read_play(text):
    """The play of which it is the text."""
    rows = rows_of(text)
    kind = due(1, kind_in(row_at(rows, 0)))
    if kind != "near":
        return Play(kind, inputs_in(kind, rows, 1))
    rounds = due(2, rounds_in(row_at(rows, 1)))
    return Play(kind, (rounds, inputs_in(kind, rows, 2)))


def read_weaving(text):
    """The weaving, a tuple, of which it is the text."""
    rows = rows_of(text)
    weaving = due(1, weaving_in(row_at(rows, 0)))
    if len(rows) > 1:
        raise BadText(2)
    return weaving


def read_record(text):
    """The record of which it is the text."""
    rows = rows_of(text)
    many = due(1, hands_in(row_at(rows, 0)))
    calls = [due(line, call_in(row)) for line, row in enumerate(rows[1:], start=2)]
    return Record(many, tuple(calls))


def text_of(rows):
    """The text that has these rows of words as its lines."""
    return "".join([" ".join(row) + "\n" for row in rows])


def words_of_input(kind, item):
    """The words for what a hand of a play of this kind is given."""
    if kind in MANNERS:
        return [str(part) for deed in item for part in deed]
    if kind == "chain":
        return [str(number) for number in item]
    return [str(item)]


def words_of_call(call):
    """The words for a call of a record."""
    word, hand, what, begin, end = call
    if word == "put":
        return ["put", str(hand), str(what), str(begin), word_of(end)]
    return ["look", str(hand), str(begin), str(end)] + [word_of(value) for value in what]


def rows_of(text):
    """The words of each line; no words at all, which no line has, for what stands behind the last line feed."""
    if not isinstance(text, str):
        raise BadText(0)
    *lines, rest = text.split("\n")
    rows = [line.split(" ") for line in lines]
    if rest != "":
        rows.append([])
    return rows


def row_at(rows, index):
    """The words of the line of this index, no words at all if it lacks."""
    if index < len(rows):
        return rows[index]
    return []


def due(line, found):
    """What was found in the line of this number, counted from 1: it is due there."""
    if found is None:
        raise BadText(line)
    return found


def kind_in(row):
    """The kind in the first line of a play, None if it has not its form."""
    if len(row) == 2 and row[0] == "kind" and row[1] in KINDS:
        return row[1]
    return None


def rounds_in(row):
    """The rounds in the second line of a play of near values, None if it has not its form."""
    if len(row) == 2 and row[0] == "rounds":
        return number_in(row[1])
    return None


def inputs_in(kind, rows, start):
    """What the hands are given by the lines from this index on, one line at least."""
    lines = rows[start:] or [row_at(rows, start)]
    return tuple([due(line, input_in(kind, row)) for line, row in enumerate(lines, start=start + 1)])


def input_in(kind, row):
    """What the hand of this line is given in a play of this kind, None if it has not its form."""
    if row[:1] != ["hand"]:
        return None
    if kind in MANNERS:
        return script_in(row[1:])
    if kind == "chain":
        return numbers_in(row[1:])
    if len(row) != 2:
        return None
    if kind == "near":
        return whole_in(row[1])
    return number_in(row[1])


def script_in(words):
    """The script that the words write, None if they write none."""
    deeds = []
    at = 0
    while at < len(words):
        deed = deed_in(words[at:at + 2])
        if deed is None:
            return None
        deeds.append(deed)
        at += len(deed)
    return tuple(deeds)


def deed_in(words):
    """The deed with which one or two words begin, None if they begin with none."""
    if words[0] == "see":
        return ("see",)
    if words[0] != "put" or len(words) < 2:
        return None
    value = number_in(words[1])
    if value is None:
        return None
    return ("put", value)


def weaving_in(row):
    """The hands in the line of a weaving, None if it has not its form."""
    if row[:1] != ["weaving"]:
        return None
    return numbers_in(row[1:])


def hands_in(row):
    """How many hands the first line of a record says there are, None if it has not its form."""
    if len(row) == 2 and row[0] == "hands":
        return number_in(row[1])
    return None


def call_in(row):
    """The call in a line of a record, None if it has not its form."""
    numbers = numbers_in(row[1:4])
    values = values_in(row[4:])
    if len(row) < 4 or numbers is None or values is None:
        return None
    if row[0] == "look":
        hand, begin, end = numbers
        return ("look", hand, values, begin, end)
    if row[0] == "put" and len(values) == 1:
        hand, value, begin = numbers
        return ("put", hand, value, begin, values[0])
    return None
