"""What a desk answers of a play and its weaving, or of a record (7.4)."""

from onepicture.errors import NoHand
from onepicture.films import drawn, drawn_looks, drawn_run, written
from onepicture.moments import moments
from onepicture.records import first_lie, order_of, told
from onepicture.runs import can_step, is_hand, run, run_out
from onepicture.texts import play_text, record_text, weaving_text
from onepicture.weavings import is_wrong, least_wrong, longest, many_standings, many_weavings, shrunk
from onepicture.words import word_of


def weaving_behind(word, play, weaving, numbers):
    """The weaving of the play behind a line that changes it."""
    change = CHANGES[word]
    return change(play, weaving, *numbers)


def answer_of_play(word, play, weaving, numbers):
    """What a line asks of the play alone, or of its weaving."""
    if word in PLAY_ANSWERS:
        answer = PLAY_ANSWERS[word]
        return answer(play)
    answer = RUN_ANSWERS[word]
    return answer(play, weaving, *numbers)


def answer_of_record(word, record, numbers):
    """What a line asks of the record."""
    answer = RECORD_ANSWERS[word]
    return answer(record, *numbers)


def with_steps(play, weaving, *hands):
    """The weaving, and these steps behind it."""
    longer = weaving + hands
    # It is not kept unless it is a weaving.
    run(play, longer)
    return longer


def without_last(play, weaving, many):
    """The weaving without so many of its last steps."""
    return weaving[:max(0, len(weaving) - many)]


def gone_out(play, weaving):
    """The weaving, run out."""
    return run_out(play, weaving)


def made_short(play, weaving):
    """The weaving, shrunk."""
    return shrunk(play, weaving)


def source_told(play):
    """The text of the play."""
    return in_one_line(play_text(play))


def weaving_told(play, weaving):
    """The text of the weaving."""
    return in_one_line(weaving_text(weaving))


def view_told(play, weaving):
    """What stands behind the weaving, drawn."""
    return in_one_line(drawn(play, run(play, weaving)))


def rows_told(play, weaving):
    """The run, drawn."""
    return in_one_line(drawn_run(play, weaving))


def looks_told(play, weaving):
    """The looks, drawn."""
    return in_one_line(drawn_looks(play, weaving)) or "none"


def steps_told(play, weaving):
    """How many steps there are."""
    return str(len(weaving))


def going_told(play, weaving):
    """The hands that are not over."""
    return in_words(can_step(play, run(play, weaving)))


def told_by_hand(play, weaving, hand):
    """What a hand told."""
    if not is_hand(play, hand):
        raise NoHand()
    return written(run(play, weaving)[2][hand])


def moments_told(play, weaving):
    """The moments at which the pictures of looks stood."""
    return in_words(moments(play, weaving))


def wrong_told(play, weaving):
    """Whether the weaving is wrong."""
    return yes_or_no(is_wrong(play, weaving))


def weavings_told(play):
    """How many whole weavings there are."""
    return str(many_weavings(play))


def standings_told(play):
    """How many standings there are."""
    return str(many_standings(play))


def longest_told(play):
    """How many steps the longest whole weaving has."""
    return str(longest(play))


def least_told(play, weaving, most):
    """The least wrong weaving of at most so many steps."""
    found = least_wrong(play, most)
    if found is None:
        return "none"
    return weaving_text(found)[:-1]


def lines_told(record):
    """The text of the record."""
    return in_one_line(record_text(record))


def right_told(record):
    """Whether the record has a right order."""
    return yes_or_no(order_of(record) is not None)


def lie_told(record):
    """The moment of the record's first lie."""
    moment = first_lie(record)
    if moment is None:
        return "none"
    return str(moment)


def look_told(record, index):
    """What a look tells of each hand."""
    return in_words(told(record, index))


def in_one_line(text):
    """The text with a `|` in the place of each line feed."""
    return text.replace("\n", "|")


def in_words(values):
    """Numbers, or None among them, in words."""
    return " ".join([word_of(value) for value in values]) or "none"


def yes_or_no(flag):
    """The word for a flag."""
    return "yes" if flag else "no"


CHANGES = {
    "weave": with_steps,
    "back": without_last,
    "out": gone_out,
    "shrink": made_short,
}

PLAY_ANSWERS = {
    "source": source_told,
    "count": weavings_told,
    "standings": standings_told,
    "longest": longest_told,
}

RUN_ANSWERS = {
    "weaving": weaving_told,
    "view": view_told,
    "rows": rows_told,
    "looks": looks_told,
    "steps": steps_told,
    "can": going_told,
    "told": told_by_hand,
    "when": moments_told,
    "wrong": wrong_told,
    "least": least_told,
}

RECORD_ANSWERS = {
    "lines": lines_told,
    "right": right_told,
    "lie": lie_told,
    "says": look_told,
}
