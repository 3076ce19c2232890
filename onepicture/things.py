"""What things are by their form (0.2), whatever is asked about."""


def is_whole(thing):
    """Whether it is an integer: flags are none."""
    return isinstance(thing, int) and not isinstance(thing, bool)


def is_number(thing):
    """Whether it is an integer from 0 on."""
    return is_whole(thing) and thing >= 0


def is_whole_within(least, most, thing):
    """Whether it is an integer from least to most, both in."""
    return is_whole(thing) and least <= thing <= most


def is_number_below(limit, thing):
    """Whether it is an integer from 0 on that is below the limit."""
    return is_whole_within(0, limit - 1, thing)


def is_word_of(words, thing):
    """Whether it is one of these strings."""
    return isinstance(thing, str) and thing in words


def is_lot_below(limit, thing):
    """Whether it is an ascending tuple of unlike numbers below the limit."""
    if not isinstance(thing, tuple):
        return False
    if not all([is_number_below(limit, item) for item in thing]):
        return False
    return all([one < other for one, other in zip(thing, thing[1:])])
