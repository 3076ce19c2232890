"""Hands that see all cells at once: names, near values, chains (4.1 to 4.3)."""


def first_in_seeing(play, hand):
    """The hand's cell and state at first."""
    if play.kind == "names":
        return None, (1, False)
    if play.kind == "near":
        return (), (0, play.inputs[1][hand], False)
    return None, (False,)


def word_in_seeing(state):
    """What the hand's next step is: the last of each state is whether it put."""
    if state[-1]:
        return ("see",)
    return ("put",)


def step_in_seeing(play, cells, state, hand):
    """The hand's cell, its state and what it tells anew, behind its next step."""
    if play.kind == "names":
        return step_in_names(play, cells, state, hand)
    if play.kind == "near":
        return step_in_near(play, cells, state, hand)
    return step_in_chain(play, cells, state, hand)


def step_in_names(play, cells, state, hand):
    """As step_in_seeing, of a hand that wishes for a new name."""
    wish, is_put = state
    if not is_put:
        return (play.inputs[hand], wish), (wish, True), ()
    taken = [cell[1] for other, cell in enumerate(cells) if other != hand and cell is not None]
    if wish not in taken:
        return cells[hand], None, (wish,)
    rank = len([cell for cell in cells if cell is not None and cell[0] <= play.inputs[hand]])
    return cells[hand], (free_number(rank, taken), False), ()


def free_number(rank, taken):
    """The number from 1 on with this rank, from 1 on too, among those that are not taken."""
    number = 0
    while rank > 0:
        number += 1
        if number not in taken:
            rank -= 1
    return number


def step_in_near(play, cells, state, hand):
    """As step_in_seeing, of a hand that comes near to the values of others."""
    at, top, is_put = state
    if not is_put:
        return cells[hand] + (top,), (at, top, True), ()
    tops = [cell[at] for cell in cells if len(cell) > at]
    top = min(tops) + max(tops)
    rounds = play.inputs[0]
    if at + 1 == rounds:
        return cells[hand], None, ((top, rounds),)
    return cells[hand], (at + 1, top, False), ()


def step_in_chain(play, cells, state, hand):
    """As step_in_seeing, of a hand that tells all that lots have."""
    if not state[0]:
        return play.inputs[hand], (True,), ()
    lots = [cell for cell in cells if cell is not None]
    return cells[hand], None, (tuple(sorted({number for lot in lots for number in lot})),)
