"""The errors of this package (0.3)."""


class PictureError(ValueError):
    """What each error of this package is."""


class BadPlay(PictureError):
    """The part of a play that has not its form: "kind" or "inputs"."""

    def __init__(self, part):
        self.part = part


class NoHand(PictureError):
    """This is no hand of the play."""

    def __init__(self):
        pass


class NoStep(PictureError):
    """The hand is over."""

    def __init__(self):
        pass


class NoWeaving(PictureError):
    """The first place of a weaving that can't be done, -1 for no list or tuple."""

    def __init__(self, index):
        self.index = index


class NoManner(PictureError):
    """The play is of no manner of looking."""

    def __init__(self):
        pass


class NoCame(PictureError):
    """This is no lot of hands that came."""

    def __init__(self):
        pass


class NoTold(PictureError):
    """This is not by its form what hands of the play tell."""

    def __init__(self):
        pass


class TooMany(PictureError):
    """There are more than the most that are gone through."""

    def __init__(self, most):
        self.most = most


class NoNumber(PictureError):
    """This is no number within the limits."""

    def __init__(self):
        pass


class NotWrong(PictureError):
    """The weaving is not wrong."""

    def __init__(self):
        pass


class BadRecord(PictureError):
    """The first of the calls that is none, or out of order, -1 for no calls."""

    def __init__(self, index):
        self.index = index


class Unclear(PictureError):
    """What is unclear in a record: "moments", "hands" or "values"."""

    def __init__(self, word):
        self.word = word


class NoLook(PictureError):
    """This is not the number of a look."""

    def __init__(self):
        pass


class NoOrder(PictureError):
    """This is no list or tuple of unlike numbers of calls."""

    def __init__(self):
        pass


class NoMoment(PictureError):
    """This is no moment."""

    def __init__(self):
        pass


class BadText(PictureError):
    """The first line that has not the form due there, 0 for no string."""

    def __init__(self, line):
        self.line = line


class NoThing(PictureError):
    """This can't be written."""

    def __init__(self):
        pass


class NoLine(PictureError):
    """This is no line of the desk."""

    def __init__(self):
        pass


class NoName(PictureError):
    """The name under which nothing is kept."""

    def __init__(self, name):
        self.name = name
