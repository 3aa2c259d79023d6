"""What counts as a whole number, and how one is written."""

FIGURES = "0123456789"


def is_whole(thing):
    # To Python True and False are ints too; here they are no numbers.
    return isinstance(thing, int) and not isinstance(thing, bool)


def is_whole_within(thing, least, most):
    return is_whole(thing) and least <= thing <= most


def is_written_whole(text, most_figures):
    if not 1 <= len(text) <= most_figures:
        return False
    # Asked sign by sign: isdigit would let figures of other scripts through.
    if not all([sign in FIGURES for sign in text]):
        return False
    return text == "0" or text[0] != "0"
