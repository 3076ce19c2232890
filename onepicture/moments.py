"""Looks that came to an end, and the moments at which their pictures stood (2.2, 2.3)."""

from onepicture.errors import NoManner
from onepicture.plays import MANNERS, many_hands
from onepicture.runs import standings_along
from onepicture.things import is_whole


def looks(play, weaving):
    """Of each look that ended its hand, its deed, its begin, its end and its picture."""
    return tuple([look for look, _ in ended_looks(standings_in_manner(play, weaving), weaving)])


def moments(play, weaving):
    """Of each look that ended the least moment at which its picture stood, None if there is none."""
    return tuple([least_of(found) for found in moments_of_looks(play, weaving)])


def sweeps(play, weaving):
    """Of each look that ended how many whole sweeps it had."""
    many = many_hands(play)
    return tuple([steps // many for _, steps in ended_looks(standings_in_manner(play, weaving), weaving)])


def is_paper(play, weaving, thing):
    """Whether it has a moment at which its picture stood for each look that ended."""
    rows = moments_of_looks(play, weaving)
    if not isinstance(thing, tuple) or len(thing) != len(rows):
        return False
    return all([is_whole(item) and item in found for item, found in zip(thing, rows)])


def bound(play):
    """How many steps no weaving of the play has more than, None for names."""
    many = many_hands(play)
    if play.kind in MANNERS:
        return sum([steps_of_script(play, hand) for hand in range(many)])
    if play.kind == "levels":
        return many * many * (many + 1)
    if play.kind == "near":
        return many * 2 * play.inputs[0]
    if play.kind == "chain":
        return many * 2
    return None


def standings_in_manner(play, weaving):
    """As standings_along, of a play in one of the manners."""
    if play.kind not in MANNERS:
        raise NoManner()
    return standings_along(play, weaving)


def ended_looks(standings, weaving):
    """Of each look that ended what looks tells of it, and how many steps of its hand it had."""
    begins = {}
    steps = {}
    found = []
    for index, hand in enumerate(weaving):
        ahead, behind = standings[index], standings[index + 1]
        state = ahead[1][hand]
        if not goes_on(state):
            begins[hand] = index
            steps[hand] = 0
        steps[hand] += 1
        picture = picture_told(ahead, behind, hand)
        if picture is not None:
            found.append(((hand, state[0], begins[hand], index + 1, picture), steps[hand]))
    return found


def goes_on(state):
    """Whether a hand in this state has begun a look that has not ended."""
    return state is not None and (state[1] is not None or state[3] != ())


def picture_told(ahead, behind, hand):
    """The picture with which the hand's step between two standings ended a look, None if it ended none."""
    if len(behind[2][hand]) > len(ahead[2][hand]):
        return behind[2][hand][-1]
    state = behind[1][hand]
    if state is None:
        return None
    # A picture that is ready ends the look ahead of a put: the put itself is the next step.
    return state[4]


def shown(cells):
    """The numbers and values of all cells, as a picture of them has them."""
    return tuple([(cell[0], cell[1]) for cell in cells])


def moments_of_looks(play, weaving):
    """For each look that ended the list of all moments from its begin to its end at which its picture stood."""
    standings = standings_in_manner(play, weaving)
    stood = [shown(cells) for cells, _, _ in standings]
    return [moments_of(stood, look) for look, _ in ended_looks(standings, weaving)]


def moments_of(stood, look):
    """All moments from the look's begin to its end at which its picture stood."""
    _, _, begin, end, picture = look
    return [moment for moment in range(begin, end + 1) if stood[moment] == picture]


def least_of(found):
    """The first of the moments, None if there are none."""
    if found:
        return found[0]
    return None


def steps_of_script(play, hand):
    """How many steps at most the hand's deeds come to."""
    script = play.inputs[hand]
    puts = many_puts(script)
    if play.kind == "borrow":
        return len(script) * steps_of_look(play, hand) + puts
    return (len(script) - puts) * steps_of_look(play, hand) + puts


def steps_of_look(play, hand):
    """How many steps at most a look of the hand has."""
    many = many_hands(play)
    if play.kind == "sweep":
        return many
    if play.kind == "borrow":
        return many * (many + 1)
    others = [many_puts(script) for other, script in enumerate(play.inputs) if other != hand]
    return many * (sum(others) + 2)


def many_puts(script):
    """How many deeds of the script are puts."""
    return len([deed for deed in script if deed[0] == "put"])
