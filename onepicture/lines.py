"""The forms of the lines that a desk is told (7.4)."""

from onepicture.errors import NoLine
from onepicture.words import numbers_in

LETTERS = "abcdefghijklmnopqrstuvwxyz"
MOST_LETTERS = 8

# How many numbers stand behind the name; behind that of "weave" there may be more.
NUMBERS_DUE = {
    "weave": 1,
    "back": 1,
    "out": 0,
    "shrink": 0,
    "source": 0,
    "weaving": 0,
    "view": 0,
    "rows": 0,
    "looks": 0,
    "steps": 0,
    "can": 0,
    "told": 1,
    "when": 0,
    "wrong": 0,
    "count": 0,
    "standings": 0,
    "longest": 0,
    "least": 1,
    "lines": 0,
    "right": 0,
    "lie": 0,
    "cut": 1,
    "says": 1,
}


def parted(line):
    """The word of the line, the name behind it, and what is told behind the name."""
    if not isinstance(line, str) or "\n" in line:
        raise NoLine()
    word, _, behind = line.partition(" ")
    name, blank, rest = behind.partition(" ")
    told = told_behind(word, blank, rest)
    if not is_name(name) or told is None:
        raise NoLine()
    return word, name, told


def is_name(word):
    """Whether plays and records may be kept under it."""
    return 1 <= len(word) <= MOST_LETTERS and all([sign in LETTERS for sign in word])


def told_behind(word, blank, rest):
    """What a line with this word tells behind its name: a text, a name or a tuple of numbers; None if it is not due."""
    if word in ("play", "record"):
        return rest.replace("|", "\n") or None
    if word == "take":
        return rest if is_name(rest) else None
    numbers = ()
    if blank == " ":
        numbers = numbers_in(rest.split(" "))
    if numbers is None or not is_due(word, len(numbers)):
        return None
    return numbers


def is_due(word, many):
    """Whether so many numbers stand behind the name in a line with this word."""
    if word == "weave":
        return many >= NUMBERS_DUE[word]
    return many == NUMBERS_DUE.get(word)
