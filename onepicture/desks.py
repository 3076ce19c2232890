"""A desk that keeps plays and records, and works by lines (7.4)."""

from onepicture.answers import answer_of_play, answer_of_record, weaving_behind
from onepicture.errors import NoName
from onepicture.lines import parted
from onepicture.records import cut
from onepicture.texts import read_play, read_record
from onepicture.witness import recorded

KEEP_PLAYS = ("play", "weave", "back", "out", "shrink")
KEEP_RECORDS = ("record", "take", "cut")
ASK_RECORDS = ("lines", "right", "lie", "says")


class Desk:
    """Plays, each with a weaving of it, and records, under names of their own."""

    def __init__(self):
        self._kept_plays = {}
        self._kept_records = {}

    def tell(self, line):
        """Does what the line says, and answers it."""
        word, name, behind = parted(line)
        if word in KEEP_PLAYS:
            self._kept_plays[name] = self._play_behind(word, name, behind)
            return "ok"
        if word in KEEP_RECORDS:
            self._kept_records[name] = self._told_behind(word, name, behind)
            return "ok"
        if word in ASK_RECORDS:
            return answer_of_record(word, kept_under(self._kept_records, name), behind)
        play, weaving = kept_under(self._kept_plays, name)
        return answer_of_play(word, play, weaving, behind)

    def _play_behind(self, word, name, behind):
        """The play, and its weaving, that are kept under the name behind this line."""
        if word == "play":
            return read_play(behind), ()
        play, weaving = kept_under(self._kept_plays, name)
        return play, weaving_behind(word, play, weaving, behind)

    def _told_behind(self, word, name, behind):
        """The record that is kept under the name behind this line."""
        if word == "record":
            return read_record(behind)
        if word == "take":
            play, weaving = kept_under(self._kept_plays, behind)
            return recorded(play, weaving)
        return cut(kept_under(self._kept_records, name), behind[0])


def kept_under(shelf, name):
    """What the shelf keeps under the name."""
    if name not in shelf:
        raise NoName(name)
    return shelf[name]
