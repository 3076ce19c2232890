"""Hands that go down levels till enough hands are below (3.1)."""


def first_in_levels(play):
    """A hand's cell and state at first."""
    return None, (len(play.inputs) + 1, None)


def word_in_levels(state):
    """What the hand's next step is."""
    now = state[1]
    if now is None:
        return ("put",)
    return ("look", len(now))


def step_in_levels(play, cells, state, hand):
    """The hand's cell, its state and what it tells anew, behind its next step."""
    level, now = state
    if now is None:
        return (level - 1, play.inputs[hand]), (level - 1, ()), ()
    now = now + (cells[len(now)],)
    if len(now) < len(cells):
        return cells[hand], (level, now), ()
    below = those_below(level, now)
    if len(below) >= level:
        return cells[hand], None, (below,)
    return cells[hand], (level, None), ()


def those_below(level, cells):
    """The hands at this level or below, each with its value."""
    return tuple([(hand, cell[1]) for hand, cell in enumerate(cells) if cell is not None and cell[0] <= level])
