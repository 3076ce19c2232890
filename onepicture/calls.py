"""Calls that strangers tell: their form, and whether they are clear (6.1)."""

from onepicture.things import is_number, is_number_below, is_word_of

MOST_CALLS = 300


def is_call(many, thing):
    """Whether it is a put or a look of one of so many hands."""
    if not isinstance(thing, tuple) or len(thing) != 5 or not is_word_of(("put", "look"), thing[0]):
        return False
    word, hand, what, begin, end = thing
    if not is_number_below(many, hand) or not is_number(begin):
        return False
    if word == "put":
        return is_number(what) and (end is None or is_number_above(begin, end))
    return is_sight(many, what) and is_number_above(begin, end)


def is_number_above(number, thing):
    """Whether it is a number greater than this one."""
    return is_number(thing) and thing > number


def is_sight(many, thing):
    """Whether it is a tuple of a value, or None, for each of so many hands."""
    if not isinstance(thing, tuple) or len(thing) != many:
        return False
    return all([item is None or is_number(item) for item in thing])


def first_bad(many, calls):
    """The first place of the tuple that is no call, or begins too early; None if all are well."""
    latest = -1
    for index, call in enumerate(calls):
        if not is_call(many, call) or call[3] <= latest:
            return index
        latest = call[3]
    return None


def what_is_unclear(calls):
    """The first word that fits calls that are well by their form, None if none does."""
    marks = [call[3] for call in calls] + [call[4] for call in calls if call[4] is not None]
    if len(set(marks)) < len(marks):
        return "moments"
    if not all([begins_in_turn(calls, index) for index in range(len(calls))]):
        return "hands"
    puts = [(call[1], call[2]) for call in calls if call[0] == "put"]
    if len(set(puts)) < len(puts):
        return "values"
    return None


def begins_in_turn(calls, index):
    """Whether the call's hand had ended all its calls ahead when this one began."""
    hand, begin = calls[index][1], calls[index][3]
    ends = [call[4] for call in calls[:index] if call[1] == hand]
    return all([end is not None and end < begin for end in ends])
