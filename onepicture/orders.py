"""Orders of the calls of a record (6.2)."""

from onepicture.things import is_number_below


def is_row_of_calls(calls, thing):
    """Whether it is a list or tuple of unlike numbers of calls."""
    if not isinstance(thing, (list, tuple)):
        return False
    if not all([is_number_below(len(calls), item) for item in thing]):
        return False
    return len(set(thing)) == len(thing)


def has_all_that_ended(calls, row):
    """Whether all calls that ended are among these numbers of calls."""
    there = {index: True for index in row}
    return all([call[4] is None or index in there for index, call in enumerate(calls)])


def points_along(calls, row):
    """For each of the numbers of calls the greatest begin of it and of those ahead of it."""
    found = []
    point = 0
    for index in row:
        point = max(point, calls[index][3])
        found.append(point)
    return found


def keeps_ends(calls, row):
    """Whether no call stands behind one that began when it had ended."""
    points = points_along(calls, row)
    return all([calls[index][4] is None or point < calls[index][4] for index, point in zip(row, points)])


def keeps_looks(account, row):
    """Whether each look tells of each hand just how many puts of it stand ahead."""
    counts = [0] * account.many
    for index in row:
        call = account.calls[index]
        if call[0] == "put":
            counts[call[1]] += 1
        elif account.seen[index] != tuple(counts):
            return False
    return True


def right_order(account):
    """A right order of the calls, a list; None if there is none."""
    if [look for look, ranks in account.seen.items() if None in ranks]:
        return None
    left = calls_due(account)
    order = []
    while left:
        ready = calls_ready(account, left)
        if not ready:
            return None
        order.extend(ready)
        placed = {index: True for index in ready}
        left = [index for index in left if index not in placed]
    return order


def calls_due(account):
    """The calls that are in each right order: those that ended, and puts that some look tells."""
    told = {(hand, rank): True for ranks in account.seen.values() for hand, rank in enumerate(ranks)}
    due = []
    for index, call in enumerate(account.calls):
        if call[4] is not None or (call[1], account.ranks[index]) in told:
            due.append(index)
    return due


def calls_ready(account, left):
    """Those of the calls left that are to stand behind none of the others left."""
    # Where a put that never ended is left, so is a look that tells it: there are ends.
    first_end = min([account.calls[index][4] for index in left if account.calls[index][4] is not None])
    begun = [index for index in left if account.calls[index][3] < first_end]
    lowest = lowest_seen(account, left)
    coming = coming_ranks(account, left)
    return [index for index in begun if fits_between(account, index, lowest, coming)]


def fits_between(account, index, lowest, coming):
    """Whether a look left tells no put left, or a put left is told by all looks left."""
    if index in account.seen:
        return all([rank < other for rank, other in zip(account.seen[index], coming)])
    return account.ranks[index] <= lowest[account.calls[index][1]]


def lowest_seen(account, left):
    """For each hand the least that a look left tells of it."""
    lowest = beyond_all(account)
    for index in left:
        if index in account.seen:
            lowest = [min(one, other) for one, other in zip(lowest, account.seen[index])]
    return lowest


def coming_ranks(account, left):
    """For each hand the least rank of its puts that are left."""
    coming = beyond_all(account)
    for index in left:
        if index in account.ranks:
            hand = account.calls[index][1]
            coming[hand] = min(coming[hand], account.ranks[index])
    return coming


def beyond_all(account):
    """For each hand a rank greater than those of all puts."""
    return [len(account.calls) + 1] * account.many
