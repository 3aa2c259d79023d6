"""What counts as a whole number."""


def is_whole(thing):
    # To Python True and False are ints too; here they are no numbers.
    return isinstance(thing, int) and not isinstance(thing, bool)
