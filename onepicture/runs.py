"""Standings, steps and weavings of plays (1.2, 1.3)."""

from onepicture.errors import NoHand, NoStep, NoWeaving
from onepicture.levels import first_in_levels, step_in_levels, word_in_levels
from onepicture.manners import first_in_manner, step_in_manner, word_in_manner
from onepicture.plays import MANNERS, many_hands
from onepicture.seeing import first_in_seeing, step_in_seeing, word_in_seeing
from onepicture.things import is_number_below


def first_standing(play):
    """What stands ahead of all steps."""
    hands = range(many_hands(play))
    firsts = [first_of_hand(play, hand) for hand in hands]
    cells = tuple([cell for cell, _ in firsts])
    states = tuple([state for _, state in firsts])
    return cells, states, tuple([() for _ in hands])


def can_step(play, standing):
    """The lot of the hands that are not over."""
    return tuple([hand for hand, state in enumerate(standing[1]) if state is not None])


def step(play, standing, hand):
    """The standing behind the hand's next step."""
    check_turn(play, standing, hand)
    return standing_behind(play, standing, hand)


def next_step(play, standing, hand):
    """What the hand's next step is."""
    check_turn(play, standing, hand)
    return word_of_step(play, standing[1][hand], hand)


def run(play, weaving):
    """The standing behind the weaving."""
    return standings_along(play, weaving)[-1]


def events(play, weaving):
    """Of each step of the weaving its hand, its word and its cell."""
    standings = standings_along(play, weaving)
    return tuple([event(play, standing, hand) for standing, hand in zip(standings, weaving)])


def run_out(play, weaving):
    """The weaving, and behind it the least hand's step till all are over."""
    standing = run(play, weaving)
    hands = list(weaving)
    going = can_step(play, standing)
    while going:
        hands.append(going[0])
        standing = standing_behind(play, standing, going[0])
        going = can_step(play, standing)
    return tuple(hands)


def standings_along(play, weaving):
    """The list of the standings behind none, one, two .. steps of the weaving."""
    if not isinstance(weaving, (list, tuple)):
        raise NoWeaving(-1)
    standing = first_standing(play)
    standings = [standing]
    for index, hand in enumerate(weaving):
        if not is_hand(play, hand) or standing[1][hand] is None:
            raise NoWeaving(index)
        standing = standing_behind(play, standing, hand)
        standings.append(standing)
    return standings


def is_hand(play, thing):
    """Whether it is a hand of the play."""
    return is_number_below(many_hands(play), thing)


def check_turn(play, standing, hand):
    """Raises the error that is due if the hand can't do a step."""
    if not is_hand(play, hand):
        raise NoHand()
    if standing[1][hand] is None:
        raise NoStep()


def first_of_hand(play, hand):
    """The hand's cell and state at first."""
    if play.kind in MANNERS:
        return first_in_manner(play, hand)
    if play.kind == "levels":
        return first_in_levels(play)
    return first_in_seeing(play, hand)


def word_of_step(play, state, hand):
    """What the next step of a hand in this state is."""
    if play.kind in MANNERS:
        return word_in_manner(play, state, hand)
    if play.kind == "levels":
        return word_in_levels(state)
    return word_in_seeing(state)


def standing_behind(play, standing, hand):
    """The standing behind the next step of a hand that is not over."""
    cells, states, told = standing
    cell, state, news = step_of_hand(play, cells, states[hand], hand)
    return put_at(cells, hand, cell), put_at(states, hand, state), put_at(told, hand, told[hand] + news)


def step_of_hand(play, cells, state, hand):
    """The hand's cell, its state and what it tells anew, behind its next step."""
    if play.kind in MANNERS:
        return step_in_manner(play, cells, state, hand)
    if play.kind == "levels":
        return step_in_levels(play, cells, state, hand)
    return step_in_seeing(play, cells, state, hand)


def put_at(row, hand, item):
    """The row with this item in the hand's place."""
    return row[:hand] + (item,) + row[hand + 1:]


def event(play, standing, hand):
    """The hand, and the word and the cell of its next step."""
    word = word_of_step(play, standing[1][hand], hand)
    if word[0] == "put":
        return hand, "put", hand
    if word[0] == "see":
        return hand, "see", None
    return hand, "look", word[1]
