"""Records that strangers tell: what looks tell, orders, bars, cuts (6.1 to 6.4)."""

from onepicture.accounts import Account
from onepicture.bars import bars_order, first_bar, is_bar_by_form
from onepicture.calls import MOST_CALLS, first_bad, what_is_unclear
from onepicture.errors import BadRecord, NoLook, NoMoment, NoNumber, NoOrder, Unclear
from onepicture.orders import has_all_that_ended, is_row_of_calls, keeps_ends, keeps_looks, points_along, right_order
from onepicture.things import is_number, is_number_below, is_whole_within

MOST_HANDS = 8


class Record:
    """How many hands there are, and their calls by their begins; it never changes."""

    def __init__(self, many, calls):
        if not is_whole_within(1, MOST_HANDS, many):
            raise NoNumber()
        if not isinstance(calls, tuple) or len(calls) > MOST_CALLS:
            raise BadRecord(-1)
        index = first_bad(many, calls)
        if index is not None:
            raise BadRecord(index)
        word = what_is_unclear(calls)
        if word is not None:
            raise Unclear(word)
        self.many = many
        self.calls = calls

    def __eq__(self, other):
        return type(self) is type(other) and self.many == other.many and self.calls == other.calls


def told(record, index):
    """What the look of this number tells of each hand: which of its puts, 0 for none, None for a strange value."""
    if not is_number_below(len(record.calls), index) or record.calls[index][0] != "look":
        raise NoLook()
    return account_of(record).seen[index]


def is_order(record, thing):
    """Whether it is a right order."""
    if not is_row_of_calls(record.calls, thing) or not has_all_that_ended(record.calls, thing):
        return False
    return keeps_ends(record.calls, thing) and keeps_looks(account_of(record), thing)


def order_of(record):
    """A right order, a list; None if there is none."""
    return right_order(account_of(record))


def points(record, order):
    """For each call of the order the greatest begin of it and of those ahead of it."""
    if not is_row_of_calls(record.calls, order):
        raise NoOrder()
    return points_along(record.calls, order)


def is_bar(record, thing):
    """Whether it is a bar."""
    account = account_of(record)
    return is_bar_by_form(account, thing) and bars_order(account, thing)


def bar(record):
    """A bar, None if there is none."""
    return first_bar(account_of(record))


def cut(record, moment):
    """The record of what began at the moment or ahead, as it was known then."""
    if not is_number(moment):
        raise NoMoment()
    begun = [call for call in record.calls if call[3] <= moment]
    known = [call_at(call, moment) for call in begun if call[0] == "put" or call[4] <= moment]
    return Record(record.many, tuple(known))


def first_lie(record):
    """The least moment at which the record is cut to one without a right order, None if there is none."""
    if order_of(record) is not None:
        return None
    ends = sorted([call[4] for call in record.calls if call[0] == "look"])
    low, high = 0, len(ends) - 1
    # Such a moment is the end of a look, and behind it no cut has a right order: so halves of the ends are left out.
    while low < high:
        middle = (low + high) // 2
        if order_of(cut(record, ends[middle])) is None:
            high = middle
        else:
            low = middle + 1
    return ends[low]


def account_of(record):
    """What the record's calls come to."""
    return Account(record.many, record.calls)


def call_at(call, moment):
    """The call as it was known at the moment: what ended behind it has no end."""
    if call[4] is not None and call[4] > moment:
        return call[:4] + (None,)
    return call
