"""Plays: what hands are to do (1.1)."""

from onepicture.errors import BadPlay
from onepicture.things import is_lot_below, is_number_below, is_whole_within, is_word_of

MANNERS = ("sweep", "twice", "borrow")
KINDS = ("sweep", "twice", "borrow", "levels", "names", "near", "chain")
MOST_HANDS = 5
MOST_DEEDS = 6
MOST_ROUNDS = 6
NEAR_MOST = 1000
NUMBER_LIMIT = 1000
LOT_LIMIT = 20


class Play:
    """A kind, and the inputs of the hands; it never changes."""

    def __init__(self, kind, inputs):
        if not is_word_of(KINDS, kind):
            raise BadPlay("kind")
        if not is_inputs(kind, inputs):
            raise BadPlay("inputs")
        self.kind = kind
        self.inputs = inputs

    def __eq__(self, other):
        return type(self) is type(other) and self.kind == other.kind and self.inputs == other.inputs


def many_hands(play):
    """How many hands the play has."""
    if play.kind == "near":
        return len(play.inputs[1])
    return len(play.inputs)


def is_inputs(kind, thing):
    """Whether it is what a play of this kind takes."""
    if kind == "near":
        return is_near(thing)
    if not is_row_of_hands(thing):
        return False
    if kind in MANNERS:
        return all([is_script(item) for item in thing])
    if kind == "chain":
        return all([is_lot_below(LOT_LIMIT, item) for item in thing])
    if not all([is_number_below(NUMBER_LIMIT, item) for item in thing]):
        return False
    return kind == "levels" or len(set(thing)) == len(thing)


def is_row_of_hands(thing):
    """Whether it is a tuple with something for each of 1 to 5 hands."""
    return isinstance(thing, tuple) and 1 <= len(thing) <= MOST_HANDS


def is_near(thing):
    """Whether it is a pair of rounds and a value for each hand."""
    if not isinstance(thing, tuple) or len(thing) != 2:
        return False
    rounds, values = thing
    if not is_whole_within(1, MOST_ROUNDS, rounds) or not is_row_of_hands(values):
        return False
    return all([is_whole_within(-NEAR_MOST, NEAR_MOST, value) for value in values])


def is_script(thing):
    """Whether it is a tuple of deeds, not too many."""
    if not isinstance(thing, tuple) or len(thing) > MOST_DEEDS:
        return False
    return all([is_deed(item) for item in thing])


def is_deed(thing):
    """Whether it is a see, or a put of a value."""
    if not isinstance(thing, tuple):
        return False
    if len(thing) == 1:
        return is_word_of(("see",), thing[0])
    return len(thing) == 2 and is_word_of(("put",), thing[0]) and is_number_below(NUMBER_LIMIT, thing[1])
