"""Runs as records: what a stranger who watched the hands would tell of them (6.5)."""

from onepicture.manners import numbers_of
from onepicture.moments import many_puts, standings_in_manner
from onepicture.plays import many_hands
from onepicture.records import Record


def recorded(play, weaving):
    """The record of the run: its puts that were begun, and its looks that ended and belong to no put."""
    standings = standings_in_manner(play, weaving)
    begins, ends = spans_of_deeds(standings, weaving)
    calls = []
    for (hand, deed), begin in begins.items():
        script = play.inputs[hand]
        end = ends.get((hand, deed))
        if script[deed][0] == "put":
            calls.append(("put", hand, many_puts(script[:deed + 1]), begin, end))
        elif end is not None:
            calls.append(("look", hand, sight_of(script, deed, standings[-1][2][hand]), begin, end))
    return Record(many_hands(play), tuple(calls))


def spans_of_deeds(standings, weaving):
    """From hand and deed to the begin of each deed that was begun, by begins; and to the end of each that is done."""
    begins = {}
    ends = {}
    for index, hand in enumerate(weaving):
        deed = standings[index][1][hand][0]
        behind = standings[index + 1][1][hand]
        begins.setdefault((hand, deed), 2 * index)
        if behind is None or behind[0] > deed:
            ends[(hand, deed)] = 2 * index + 1
    return begins, ends


def sight_of(script, deed, told_pictures):
    """What the look that is this deed of the script saw: for each hand the number of its last put, None for none."""
    sees_ahead = deed - many_puts(script[:deed])
    return tuple([number or None for number in numbers_of(told_pictures[sees_ahead])])
