"""Choirs: tuples of bells (NAME, START, RULE, LISTENINGS)."""

from earbells.errors import NoChoir, NoName, NoRule
from earbells.rules import rule_of
from earbells.wholes import is_whole_within

MOST_BELLS = 6
MOST_LISTENINGS = 6
MOST_LETTERS = 8
MOST_START = 1000
MOST_BEATS = 1000
LETTERS = "abcdefghijklmnopqrstuvwxyz"
NO_NAMES = ("all", "any", "bell", "none")


def is_word(thing):
    if not isinstance(thing, str) or not 1 <= len(thing) <= MOST_LETTERS:
        return False
    return all([sign in LETTERS for sign in thing])


def is_name(thing):
    return is_word(thing) and thing not in NO_NAMES


def is_rule(thing, many):
    try:
        rule_of(thing, many)
    except NoRule:
        return False
    return True


def is_listening(thing, bells):
    if not isinstance(thing, tuple) or len(thing) != 3:
        return False
    if not is_whole_within(thing[0], 0, bells - 1):
        return False
    return is_whole_within(thing[1], 1, MOST_BEATS) and is_whole_within(thing[2], 0, 1)


def are_listenings(thing, bells):
    if not isinstance(thing, tuple) or not 1 <= len(thing) <= MOST_LISTENINGS:
        return False
    return all([is_listening(listening, bells) for listening in thing])


# ahead: the names of the bells ahead; bells: the number of all bells
def is_bell(thing, ahead, bells):
    if not isinstance(thing, tuple) or len(thing) != 4:
        return False
    if not is_name(thing[0]) or thing[0] in ahead:
        return False
    if not is_whole_within(thing[1], 0, MOST_START):
        return False
    # The listenings first: what a rule is hangs on how many they are.
    return are_listenings(thing[3], bells) and is_rule(thing[2], len(thing[3]))


def checked(thing):
    if not isinstance(thing, tuple) or not 1 <= len(thing) <= MOST_BELLS:
        raise NoChoir(None)
    ahead = []
    for number, bell in enumerate(thing):
        if not is_bell(bell, ahead, len(thing)):
            raise NoChoir(number)
        ahead.append(bell[0])
    return thing


def names_of(choir):
    return [bell[0] for bell in choir]


def place_of(choir, name):
    for number, bell in enumerate(choir):
        if bell[0] == name:
            return number
    raise NoName(name)


def rule_of_bell(bell):
    return rule_of(bell[2], len(bell[3]))
