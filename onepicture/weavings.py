"""All weavings of small plays: counted, and gone through for wrong ones (5.1, 5.2)."""

from onepicture.errors import NoNumber, NotWrong, NoWeaving, TooMany
from onepicture.faults import fault
from onepicture.moments import goes_on, moments, picture_told, shown
from onepicture.plays import MANNERS
from onepicture.runs import can_step, first_standing, put_at, run, standing_behind
from onepicture.things import is_whole_within

MOST_STANDINGS = 20000
MOST_STEPS = 40


def many_standings(play):
    """How many unlike standings come by any weavings."""
    return len(net_of(play)[0])


def many_weavings(play):
    """How many whole weavings there are."""
    return sum(list(outcomes(play).values()))


def outcomes(play):
    """From what is told to how many whole weavings lead to it."""
    standings, behind = net_of(play)
    ways = [1] + [0] * (len(standings) - 1)
    for number in sorted_net(behind):
        for later in behind[number]:
            ways[later] += ways[number]
    counts = {}
    for number, row in enumerate(behind):
        if not row:
            told = standings[number][2]
            counts[told] = counts.get(told, 0) + ways[number]
    return counts


def longest(play):
    """How many steps the longest whole weaving has."""
    _, behind = net_of(play)
    steps = [0] * len(behind)
    for number in sorted_net(behind):
        for later in behind[number]:
            steps[later] = max(steps[later], steps[number] + 1)
    return max(steps)


def is_wrong(play, weaving):
    """Whether the weaving shows a picture that never stood, or something told that has a fault."""
    told = run(play, weaving)[2]
    if play.kind in MANNERS:
        return None in moments(play, weaving)
    return fault(play, those_that_came(weaving), told) is not None


def least_wrong(play, most):
    """The least of the shortest wrong weavings of at most so many steps, None if there is none."""
    if not is_whole_within(0, MOST_STEPS, most):
        raise NoNumber()
    sight = first_sight(play)
    known = {sight: True}
    row = [((), sight)]
    for steps in range(1, most + 1):
        wrong, row = row_behind(play, row, known)
        if wrong is not None:
            return wrong
        # Where weavings of most steps lead to is not gone on from.
        if steps < most and len(known) > MOST_STANDINGS:
            raise TooMany(MOST_STANDINGS)
    return None


def shrunk(play, weaving):
    """The wrong weaving without the steps that can be left out, the first such one at a time."""
    if not is_wrong(play, weaving):
        raise NotWrong()
    left = tuple(weaving)
    shorter = first_shorter(play, left)
    while shorter is not None:
        left = shorter
        shorter = first_shorter(play, left)
    return left


def net_of(play):
    """The list of all standings, the first one first, and for each the numbers of those one step behind it."""
    standings = [first_standing(play)]
    numbers = {standings[0]: 0}
    behind = []
    while len(behind) < len(standings):
        row = []
        later = standings_behind(play, standings[len(behind)])
        for standing in later:
            number = numbers.setdefault(standing, len(standings))
            if number == len(standings):
                standings.append(standing)
            row.append(number)
        if len(standings) > MOST_STANDINGS:
            raise TooMany(MOST_STANDINGS)
        behind.append(row)
    return standings, behind


def standings_behind(play, standing):
    """The standings one step behind this one."""
    return [standing_behind(play, standing, hand) for hand in can_step(play, standing)]


def sorted_net(behind):
    """The numbers of all standings, each ahead of those that steps lead to from it."""
    waiting = [0] * len(behind)
    for row in behind:
        for number in row:
            waiting[number] += 1
    # Each run ends, so no standing comes back: only the first one has nothing ahead of it.
    found = [0]
    at = 0
    while at < len(found):
        for number in behind[found[at]]:
            waiting[number] -= 1
            if waiting[number] == 0:
                found.append(number)
        at += 1
    return found


def those_that_came(weaving):
    """The lot of the hands that did a step."""
    return tuple(sorted(set(weaving)))


def first_sight(play):
    """The first standing, and for each hand what stood since its look began: nothing, as none did."""
    cells, states, told = first_standing(play)
    return cells, states, told, tuple([() for _ in states])


def row_behind(play, row, known):
    """The first wrong weaving of one step more than those of the row, None if there is none; and the row behind it.

    A row has weavings, ascending, each with the sight to which it leads, and to which none leads that is shorter, or
    as long and less. Sights that come anew are made known.
    """
    found = []
    for weaving, sight in row:
        for hand in can_step(play, sight[:3]):
            longer = weaving + (hand,)
            behind = sight_behind(play, sight, hand)
            if shows_wrong(play, longer, sight, behind):
                return longer, []
            if behind not in known:
                known[behind] = True
                found.append((longer, behind))
    return None, found


def sight_behind(play, sight, hand):
    """The sight behind the hand's next step."""
    standing = standing_behind(play, sight[:3], hand)
    stood = sight[3]
    if play.kind not in MANNERS:
        return standing + (stood,)
    if standing[0] != sight[0]:
        here = shown(standing[0])
        return standing + (tuple([row + (here,) if row else () for row in stood]),)
    row = ()
    if goes_on(standing[1][hand]):
        row = stood_since(sight, hand)
    return standing + (put_at(stood, hand, row),)


def stood_since(sight, hand):
    """What stood since the hand's look began, be it with its next step."""
    return sight[3][hand] or (shown(sight[0]),)


def shows_wrong(play, weaving, ahead, behind):
    """Whether the last step of the weaving, between these two sights, makes it wrong."""
    if play.kind not in MANNERS:
        return fault(play, those_that_came(weaving), behind[2]) is not None
    hand = weaving[-1]
    picture = picture_told(ahead, behind, hand)
    return picture is not None and picture not in stood_since(ahead, hand)


def first_shorter(play, weaving):
    """The wrong weaving without the first step that can be left out, None if none can."""
    for index in range(len(weaving)):
        shorter = weaving[:index] + weaving[index + 1:]
        if is_wrong_weaving(play, shorter):
            return shorter
    return None


def is_wrong_weaving(play, thing):
    """Whether it is a weaving of the play, and wrong."""
    try:
        return is_wrong(play, thing)
    except NoWeaving:
        return False
