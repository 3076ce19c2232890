"""Reels of runs that are gone through ahead and back, and pictures of them (7.2, 7.3)."""

from onepicture.errors import NoMoment, NoNumber, NoThing
from onepicture.moments import looks, moments_of_looks
from onepicture.plays import many_hands
from onepicture.runs import events, first_standing, run, standing_behind
from onepicture.things import is_number_below, is_whole, is_whole_within

MOST_EVERY = 500
MOST_DEEP = 20


class Reel:
    """A run that stands behind so many steps of its weaving, and keeps standings on its way."""

    def __init__(self, play, weaving, every):
        # The standing behind it is not kept: this only finds out whether it is a weaving.
        run(play, weaving)
        if not is_whole_within(1, MOST_EVERY, every):
            raise NoNumber()
        self._play = play
        self._weaving = tuple(weaving)
        self._every = every
        self._at = 0
        self._now = first_standing(play)
        self._shelf = {0: self._now}
        self._gone = 0

    def stands(self):
        """Behind how many steps it stands."""
        return self._at

    def standing_now(self):
        """The standing there."""
        return self._now

    def seek(self, at):
        """Stands behind so many steps."""
        if not is_number_below(len(self._weaving) + 1, at):
            raise NoMoment()
        start = max([number for number in self._shelf if number <= at])
        standing = self._shelf[start]
        if start < self._at <= at:
            start = self._at
            standing = self._now
        for index in range(start, at):
            standing = standing_behind(self._play, standing, self._weaving[index])
            if (index + 1) % self._every == 0:
                self._shelf[index + 1] = standing
        self._at = at
        self._now = standing
        self._gone = at - start

    def kept(self):
        """The numbers of steps behind which standings are kept, ascending."""
        return tuple(sorted(list(self._shelf)))

    def worked(self):
        """How many steps the last seek went through."""
        return self._gone

    def copy(self):
        """A reel that is like this one, and goes on apart."""
        other = Reel(self._play, self._weaving, self._every)
        other._at = self._at
        other._now = self._now
        other._shelf = dict(self._shelf)
        other._gone = self._gone
        return other


def written(thing):
    """The thing as a word."""
    return written_within(MOST_DEEP, thing)


def drawn(play, standing):
    """A row for each hand: its cell, its state and what it told."""
    rows = []
    for hand in range(many_hands(play)):
        words = [written(part[hand]) for part in standing]
        rows.append(f"{hand}: " + " ".join(words))
    return picture_of(rows)


def drawn_run(play, weaving):
    """A row for each hand: what it does in each step."""
    told_events = events(play, weaving)
    return picture_of([row_of_hand(told_events, hand) for hand in range(many_hands(play))])


def drawn_looks(play, weaving):
    """A row for each look that ended: where it went on, and where its picture stood then."""
    found = looks(play, weaving)
    stood = moments_of_looks(play, weaving)
    return picture_of([row_of_look(look, there, len(weaving)) for look, there in zip(found, stood)])


def written_within(depth, thing):
    """The thing as a word, if it is nested at most so deep."""
    if thing is None:
        return "-"
    if isinstance(thing, bool):
        return "yes" if thing else "no"
    if is_whole(thing):
        return str(thing)
    if not isinstance(thing, tuple) or depth == 0:
        raise NoThing()
    return "(" + ",".join([written_within(depth - 1, item) for item in thing]) + ")"


def picture_of(rows):
    """The text of the rows."""
    return "".join([row + "\n" for row in rows])


def row_of_hand(told_events, hand):
    """A sign for each step."""
    return "".join([sign_of_step(event) if event[0] == hand else "." for event in told_events])


def sign_of_step(event):
    """The sign of what a hand does in its own step."""
    _, word, cell = event
    if word == "put":
        return "P"
    if word == "see":
        return "S"
    return str(cell)


def row_of_look(look, stood, last):
    """A sign for each moment up to the last one."""
    _, _, begin, end, _ = look
    return "".join([sign_of_moment(moment, begin, end, stood) for moment in range(last + 1)])


def sign_of_moment(moment, begin, end, stood):
    """Whether the look went on at the moment, and whether its picture stood."""
    if moment < begin or moment > end:
        return "."
    if moment in stood:
        return "*"
    return "-"
