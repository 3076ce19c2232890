"""What is wrong with what hands told (4.4)."""

from onepicture.errors import NoCame, NoTold
from onepicture.manners import numbers_of
from onepicture.plays import LOT_LIMIT, MANNERS, NUMBER_LIMIT, many_hands
from onepicture.things import is_lot_below, is_number, is_number_below, is_whole


def fault(play, came, told):
    """The first word that fits what hands told of whom those came, None if none does."""
    if not is_lot_below(many_hands(play), came):
        raise NoCame()
    if not is_told(play, told):
        raise NoTold()
    if [hand for hand, row in enumerate(told) if row and hand not in came]:
        return "came"
    if play.kind in MANNERS:
        return fault_of_pictures(came, [row for row in told if row])
    news = {hand: row[0] for hand, row in enumerate(told) if row}
    if play.kind == "levels":
        return fault_of_levels(play.inputs, came, news)
    if play.kind == "names":
        return fault_of_names(came, list(news.values()))
    if play.kind == "near":
        return fault_of_near(play, came, [top for top, _ in news.values()])
    return fault_of_chain(play.inputs, came, news)


def is_told(play, thing):
    """Whether it is by its form what the hands of the play tell."""
    if not isinstance(thing, tuple) or len(thing) != many_hands(play):
        return False
    return all([is_row_told(play, hand, row) for hand, row in enumerate(thing)])


def is_row_told(play, hand, thing):
    """Whether it is by its form what this hand of the play tells."""
    if not isinstance(thing, tuple) or len(thing) > most_told(play, hand):
        return False
    return all([is_one_told(play, item) for item in thing])


def most_told(play, hand):
    """How many things at most the hand tells."""
    if play.kind in MANNERS:
        return len([deed for deed in play.inputs[hand] if deed[0] == "see"])
    return 1


def is_one_told(play, thing):
    """Whether it is by its form one thing that a hand of the play tells."""
    if play.kind in MANNERS:
        return is_picture(many_hands(play), thing)
    if play.kind == "levels":
        return is_group(many_hands(play), thing)
    if play.kind == "names":
        return is_number(thing) and thing > 0
    if play.kind == "near":
        return is_pair(thing) and is_whole(thing[0]) and is_whole(thing[1]) and thing[1] == play.inputs[0]
    return is_lot_below(LOT_LIMIT, thing)


def is_pair(thing):
    """Whether it is a tuple of two."""
    return isinstance(thing, tuple) and len(thing) == 2


def is_picture(many, thing):
    """Whether it is a tuple of a pair of a number and a value for each of so many hands."""
    if not isinstance(thing, tuple) or len(thing) != many:
        return False
    return all([is_pair(item) and is_number(item[0]) and is_number_below(NUMBER_LIMIT, item[1]) for item in thing])


def is_group(many, thing):
    """Whether it is an ascending tuple of pairs of a hand and a value, of unlike hands."""
    if not isinstance(thing, tuple):
        return False
    if not all([is_pair(item) and is_number_below(NUMBER_LIMIT, item[1]) for item in thing]):
        return False
    return is_lot_below(many, tuple([item[0] for item in thing]))


def fault_of_pictures(came, rows):
    """The first word that fits the pictures of each hand that told some."""
    sights = [[numbers_of(picture) for picture in row] for row in rows]
    all_sights = [numbers for row in sights for numbers in row]
    if [numbers for numbers in all_sights if strangers_in(came, numbers)]:
        return "came"
    if not all([at_most(one, other) or at_most(other, one) for one, other in pairs_of(all_sights)]):
        return "chain"
    if not all([at_most(one, later) for row in sights for one, later in pairs_of(row)]):
        return "back"
    return None


def strangers_in(came, numbers):
    """The hands that put something by these numbers and have not come."""
    return [hand for hand, number in enumerate(numbers) if number > 0 and hand not in came]


def at_most(one, other):
    """Whether no number of the one is greater than that of the other, hand by hand."""
    return all([number <= number_too for number, number_too in zip(one, other)])


def pairs_of(items):
    """The items two by two, the earlier one first."""
    return [(one, later) for at, one in enumerate(items) for later in items[at + 1:]]


def has_all(one, other):
    """Whether the one has all that the other has."""
    return all([item in one for item in other])


def are_chain(rows):
    """Whether of any two rows one has all that the other has."""
    return all([has_all(one, other) or has_all(other, one) for one, other in pairs_of(rows)])


def fault_of_levels(values, came, news):
    """The first word that fits the pairs of each hand that told some."""
    groups = {hand: [other for other, _ in pairs] for hand, pairs in news.items()}
    if [hand for hand, group in groups.items() if hand not in group]:
        return "own"
    told = [pair for pairs in news.values() for pair in pairs]
    if [hand for hand, value in told if hand not in came or value != values[hand]]:
        return "value"
    if not are_chain(list(groups.values())):
        return "chain"
    inner = [(group, other) for group in groups.values() for other in group if other in groups]
    if [other for group, other in inner if len(groups[other]) > len(group)]:
        return "inner"
    return None


def fault_of_names(came, names):
    """The first word that fits the new names."""
    if len(set(names)) < len(names):
        return "alike"
    if [name for name in names if name > 2 * len(came) - 1]:
        return "great"
    return None


def fault_of_near(play, came, tops):
    """The first word that fits the tops, which are of the last round."""
    if not tops:
        return None
    rounds, values = play.inputs
    there = [values[hand] for hand in came]
    least, most = min(there), max(there)
    # What is told is top / 2 ** rounds: the bounds are made greater, so that all are integers.
    scale = 1 << rounds
    if [top for top in tops if top < least * scale or top > most * scale]:
        return "out"
    if max(tops) - min(tops) > most - least:
        return "far"
    return None


def fault_of_chain(lots, came, news):
    """The first word that fits the lots that hands told."""
    if [hand for hand, lot in news.items() if not has_all(lot, lots[hand])]:
        return "own"
    brought = [number for hand in came for number in lots[hand]]
    if not all([has_all(brought, lot) for lot in news.values()]):
        return "new"
    if not are_chain(list(news.values())):
        return "chain"
    return None
