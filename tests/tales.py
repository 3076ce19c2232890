"""Records made up for tests, and their right orders and bars found by the words of 6.2 and 6.3, one by one."""

import random
from itertools import permutations

from onepicture.records import Record


def made_up(seed, many, most, slack=2, stops=6):
    """A record of at most so many calls; a look tells what stood at its end or ahead, more or less.

    With a slack of 0 it tells what stood at its end, so that the record has a right order. One call in so many as
    `stops` says is never ended.
    """
    chance = random.Random(seed)
    counts, open_calls, calls, stopped = [0] * many, {}, [], set()
    for moment in range(6 * most):
        hand = chance.randrange(many)
        if hand in stopped or chance.random() < 0.3:
            continue
        if hand not in open_calls:
            if len(calls) == most:
                continue
            word = chance.choice(("put", "look"))
            counts[hand] += word == "put"
            open_calls[hand] = len(calls)
            calls.append([word, hand, 10 * counts[hand] + hand, moment, None])
            if stops and chance.randrange(stops) == 0:
                stopped.add(hand)
        else:
            call = calls[open_calls.pop(hand)]
            call[4] = moment
            if call[0] == "look":
                call[2] = sight(chance, counts, slack)
    return Record(many, tuple(tuple(call) for call in calls if call[0] == "put" or call[4] is not None))


def sight(chance, counts, slack):
    """What a look saw if each hand began so many puts, each count perhaps a little off."""
    told = []
    for hand, count in enumerate(counts):
        rank = count
        if slack and chance.random() < 0.5:
            rank = max(0, count + chance.randint(-slack, 1))
        told.append(None if rank == 0 else 10 * rank + hand)
    return tuple(told)


def ranks_told(record):
    """From the number of each look to what it tells."""
    puts = [[call[2] for call in record.calls if call[:2] == ("put", hand)] for hand in range(record.many)]
    return {
        index: tuple(0 if value is None else (puts[hand].index(value) + 1 if value in puts[hand] else None)
                     for hand, value in enumerate(call[2]))
        for index, call in enumerate(record.calls) if call[0] == "look"
    }


def is_right(record, row):
    """Whether a row of unlike numbers of calls, with all that ended, is right."""
    calls, told = record.calls, ranks_told(record)
    for at, index in enumerate(row):
        for later in row[at + 1:]:
            if calls[later][4] is not None and calls[later][4] < calls[index][3]:
                return False
        if index in told:
            ahead = [sum(calls[other][:2] == ("put", hand) for other in row[:at]) for hand in range(record.many)]
            if told[index] != tuple(ahead):
                return False
    return True


def rows_of(record):
    """All rows of numbers of calls, each once, with all that ended."""
    ended = [index for index, call in enumerate(record.calls) if call[4] is not None]
    never = [index for index, call in enumerate(record.calls) if call[4] is None]
    for mask in range(2 ** len(never)):
        yield from permutations(ended + [index for at, index in enumerate(never) if mask >> at & 1])


def has_right_order(record):
    return any(is_right(record, row) for row in rows_of(record))


def bars_by_words(record):
    """All bars of the record."""
    calls, told = record.calls, ranks_told(record)
    puts = {index: sum(other[:2] == call[:2] for other in calls[:index + 1])
            for index, call in enumerate(calls) if call[0] == "put"}
    bars = [("strange", look, hand) for look in told for hand in range(record.many) if told[look][hand] is None]
    told = {look: ranks for look, ranks in told.items() if None not in ranks}

    def ahead(one, other):
        return calls[one][4] is not None and calls[one][4] < calls[other][3]

    for look, ranks in told.items():
        for put, rank in puts.items():
            hand = calls[put][1]
            if calls[put][3] > calls[look][4] and ranks[hand] >= rank:
                bars.append(("ahead", look, put))
            if ranks[hand] < rank and ahead(put, look):
                bars.append(("old", look, put))
            for other, later in puts.items():
                if hand != calls[other][1] and ahead(put, other):
                    if ranks[calls[other][1]] >= later and ranks[hand] < rank:
                        bars.append(("crossed", look, put, other))
        for other, ranks_too in told.items():
            pairs = list(zip(ranks, ranks_too))
            if look < other and any(a > b for a, b in pairs) and any(a < b for a, b in pairs):
                bars.append(("unlike", look, other))
            if ahead(look, other) and any(a > b for a, b in pairs):
                bars.append(("back", look, other))
    return bars
