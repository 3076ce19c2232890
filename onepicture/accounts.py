"""What the calls of a record come to: which put each one is, and what each look tells (6.1)."""


class Account:
    """Clear calls; `puts` the numbers of the puts by hand and rank, `ranks` the ranks of the puts by number.

    The rank of a put is which of its hand's puts it is, from 1 on. `seen` is for each look what it tells: for each
    hand the rank of its put, 0 for none, None for a strange value.
    """

    def __init__(self, many, calls):
        self.many = many
        self.calls = calls
        self.puts = puts_by_rank(calls)
        self.ranks = {index: rank for (_, rank), index in self.puts.items()}
        values = {(hand, calls[index][2]): rank for (hand, rank), index in self.puts.items()}
        self.seen = {index: ranks_in(values, call[2]) for index, call in enumerate(calls) if call[0] == "look"}


def puts_by_rank(calls):
    """From each pair of a hand and a rank to the number of this put among the calls."""
    counts = {}
    puts = {}
    for index, call in enumerate(calls):
        if call[0] == "put":
            hand = call[1]
            counts[hand] = counts.get(hand, 0) + 1
            puts[(hand, counts[hand])] = index
    return puts


def ranks_in(values, sight):
    """What a look that saw this tells of each hand."""
    return tuple([0 if value is None else values.get((hand, value)) for hand, value in enumerate(sight)])


def tells(account, look, put):
    """Whether the look tells this put, or a later one of its hand."""
    return account.seen[look][account.calls[put][1]] >= account.ranks[put]


def ends_ahead(account, one, other):
    """Whether the one call ended ahead of the other's begin."""
    end = account.calls[one][4]
    return end is not None and end < account.calls[other][3]
