"""Hands that look at one cell after another, in three manners (2.1)."""

FIRST_CELL = (0, 0, None)


def state_ahead(script, done):
    """The state of a hand that begins its deed of this number, None if there is none."""
    if done == len(script):
        return None
    return (done, None, None, (), None)


def first_in_manner(play, hand):
    """The hand's cell and state at first."""
    return FIRST_CELL, state_ahead(play.inputs[hand], 0)


def word_in_manner(play, state, hand):
    """What the hand's next step is."""
    if puts_next(play, hand, state):
        return ("put",)
    return ("look", len(state[3]))


def puts_next(play, hand, state):
    """Whether the next step is a put: in "borrow" a look comes ahead of it."""
    if play.inputs[hand][state[0]][0] != "put":
        return False
    return play.kind != "borrow" or state[4] is not None


def step_in_manner(play, cells, state, hand):
    """The hand's cell, its state and what it tells anew, behind its next step."""
    if puts_next(play, hand, state):
        return behind_put(play.inputs[hand], cells[hand], state)
    state, news = behind_look(play, cells, state, hand)
    return cells[hand], state, news


def behind_put(script, cell, state):
    """As step_in_manner, of a step that is a put."""
    done, ready = state[0], state[4]
    cell = (cell[0] + 1, script[done][1], ready)
    return cell, state_ahead(script, done + 1), ()


def behind_look(play, cells, state, hand):
    """The state and what is told anew, behind a look at one more cell."""
    done, first, last, now, ready = state
    now = now + (cells[len(now)],)
    if len(now) < len(cells):
        return (done, first, last, now, ready), ()
    picture = picture_of_sweep(play.kind, first, last, now)
    if picture is not None:
        return behind_picture(play.inputs[hand], done, picture)
    numbers = numbers_of(now)
    if first is None:
        first = numbers
    return (done, first, numbers, (), ready), ()


def behind_picture(script, done, picture):
    """The state and what is told anew, behind a look that came to its end."""
    if script[done][0] == "put":
        return (done, None, None, (), picture), ()
    return state_ahead(script, done + 1), (picture,)


def numbers_of(cells):
    """How often each cell was put."""
    return tuple([cell[0] for cell in cells])


def picture_of_sweep(kind, first, last, now):
    """The picture with which this whole sweep ends the look, None if it goes on."""
    if kind == "sweep" or numbers_of(now) == last:
        return tuple([(cell[0], cell[1]) for cell in now])
    if kind == "borrow" and first is not None:
        return borrowed(first, now)
    return None


def borrowed(first, now):
    """The picture of the least hand that put twice since the first sweep, None if none did."""
    for number, cell in zip(first, now):
        # The look for the first of two puts may have begun ahead of ours; that for the second began within it.
        if cell[0] >= number + 2:
            return cell[2]
    return None
