"""Words of texts and of the desk's lines: numbers, and what stands for them (7.1)."""

FIGURES = "0123456789"
MOST_FIGURES = 20


def number_in(word):
    """The number that the word writes, None if it writes none."""
    if word == "" or len(word) > MOST_FIGURES or not all([sign in FIGURES for sign in word]):
        return None
    if word[0] == "0" and word != "0":
        return None
    return int(word)


def whole_in(word):
    """The integer that the word writes, None if it writes none."""
    if not word.startswith("-"):
        return number_in(word)
    number = number_in(word[1:])
    # Each integer is written in one way: 0 has no sign.
    if number is None or number == 0:
        return None
    return -number


def numbers_in(words):
    """The tuple of the numbers that the words write, None if one of them writes none."""
    found = [number_in(word) for word in words]
    if None in found:
        return None
    return tuple(found)


def values_in(words):
    """As numbers_in, but for each word `-` there is None in the tuple."""
    found = [number_in(word) for word in words]
    if found.count(None) != words.count("-"):
        return None
    return tuple(found)


def word_of(value):
    """The word for a number, or for None."""
    if value is None:
        return "-"
    return str(value)
