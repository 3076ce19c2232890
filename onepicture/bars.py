"""Bars: what keeps a record from having a right order (6.3)."""

from onepicture.accounts import ends_ahead, tells
from onepicture.things import is_number_below, is_word_of

FORMS = {
    "strange": ("look", "hand"),
    "ahead": ("look", "put"),
    "old": ("look", "put"),
    "unlike": ("look", "look"),
    "back": ("look", "look"),
    "crossed": ("look", "put", "put"),
}


def is_bar_by_form(account, thing):
    """Whether it is a word of a bar, and behind it numbers of what is due there."""
    if not isinstance(thing, tuple) or len(thing) == 0 or not is_word_of(list(FORMS), thing[0]):
        return False
    form = FORMS[thing[0]]
    if len(thing) != len(form) + 1:
        return False
    return all([is_number_of(account, word, item) for word, item in zip(form, thing[1:])])


def is_number_of(account, word, thing):
    """Whether it is the number of a hand, or of a call of this word."""
    if word == "hand":
        return is_number_below(account.many, thing)
    return is_number_below(len(account.calls), thing) and account.calls[thing][0] == word


def bars_order(account, thing):
    """Whether what is a bar by its form bars a right order."""
    word, numbers = thing[0], thing[1:]
    if word != "strange" and [number for number in numbers if None in account.seen.get(number, ())]:
        return False
    shows = SHOWN_BY[word]
    return shows(account, *numbers)


def shows_strange(account, look, hand):
    """Whether the look tells a value that no put of the hand has."""
    return account.seen[look][hand] is None


def shows_ahead(account, look, put):
    """Whether the look tells a put that began behind its end."""
    return ends_ahead(account, look, put) and tells(account, look, put)


def shows_old(account, look, put):
    """Whether the look does not tell a put that ended ahead of its begin."""
    return ends_ahead(account, put, look) and not tells(account, look, put)


def shows_unlike(account, one, other):
    """Whether each of two looks tells more of some hand than the other one."""
    return one < other and tells_more(account, one, other) and tells_more(account, other, one)


def shows_back(account, one, other):
    """Whether a look tells less of some hand than one that ended ahead of its begin."""
    return ends_ahead(account, one, other) and tells_more(account, one, other)


def shows_crossed(account, look, one, other):
    """Whether the look tells the other put, but not the one, which ended ahead of the other's begin."""
    if account.calls[one][1] == account.calls[other][1] or not ends_ahead(account, one, other):
        return False
    return tells(account, look, other) and not tells(account, look, one)


def tells_more(account, one, other):
    """Whether the one look tells more of some hand than the other one does."""
    return any([rank > rank_too for rank, rank_too in zip(account.seen[one], account.seen[other])])


def first_bar(account):
    """A bar, None if there is none."""
    for look, ranks in account.seen.items():
        if None in ranks:
            return "strange", look, ranks.index(None)
    for thing in bars_of_one_look(account) + bars_of_two_looks(account):
        if bars_order(account, thing):
            return thing
    return None


def bars_of_one_look(account):
    """Bars by their form, one at least of those that bar if a look beside puts bars."""
    found = []
    for look, ranks in account.seen.items():
        # Of each hand the last put that is told began last, and the first one that is not told ended first.
        told = puts_of_ranks(account, ranks)
        left = puts_of_ranks(account, [rank + 1 for rank in ranks])
        found.extend([("ahead", look, put) for put in told])
        found.extend([("old", look, put) for put in left])
        found.extend([("crossed", look, one, other) for one in left for other in told])
    return found


def puts_of_ranks(account, ranks):
    """The numbers of the puts that have these ranks, hand by hand, where there are such."""
    return [account.puts[pair] for pair in enumerate(ranks) if pair in account.puts]


def bars_of_two_looks(account):
    """All bars by their form of two looks; the one that ended ahead of the other's begin has the lower number."""
    pairs = [(one, other) for one in account.seen for other in account.seen if one < other]
    return [(word, one, other) for one, other in pairs for word in ("unlike", "back")]


SHOWN_BY = {
    "strange": shows_strange,
    "ahead": shows_ahead,
    "old": shows_old,
    "unlike": shows_unlike,
    "back": shows_back,
    "crossed": shows_crossed,
}
