"""Choirs written as rows of text, and read of them."""

from earbells.choirs import MOST_BELLS, is_bell, is_name, names_of, rule_of_bell
from earbells.errors import NoText
from earbells.wholes import is_written_whole

MOST_FIGURES = 9


def show_rule(bell):
    wants = rule_of_bell(bell).wants()
    if wants == len(bell[3]):
        return "all"
    if wants == 1:
        return "any"
    return str(wants)


def show_listening(listening, names):
    name = names[listening[0]]
    beats = listening[1]
    end = "=" if listening[2] == 0 else ""
    return f"{name}+{beats}{end}"


def show_bell(bell, names):
    words = [bell[0], str(bell[1]), show_rule(bell)]
    return " ".join(words + [show_listening(listening, names) for listening in bell[3]])


def show_choir(choir):
    names = names_of(choir)
    return [show_bell(bell, names) for bell in choir]


# What is not so written is read as None, which no bell holds: so is_bell
# alone tells whether a row is good.
def read_number(text):
    if is_written_whole(text, MOST_FIGURES):
        return int(text)
    return None


def read_rule(text):
    if text in ("all", "any"):
        return text
    return read_number(text)


def read_listening(text, names):
    parts = text.partition("+")
    if not is_name(parts[0]) or parts[0] not in names:
        return None
    beats = parts[2]
    back = 1
    if beats.endswith("="):
        beats = beats[:-1]
        back = 0
    return (names.index(parts[0]), read_number(beats), back)


def read_bell(row, names):
    words = row.split(" ")
    if len(words) < 4:
        return None
    listenings = [read_listening(word, names) for word in words[3:]]
    return (words[0], read_number(words[1]), read_rule(words[2]), tuple(listenings))


def are_rows(thing):
    if not isinstance(thing, list) or not 1 <= len(thing) <= MOST_BELLS:
        return False
    return all([isinstance(row, str) for row in thing])


def read_choir(rows):
    if not are_rows(rows):
        raise NoText(None)
    names = [row.split(" ")[0] for row in rows]
    bells = []
    for number, row in enumerate(rows):
        bell = read_bell(row, names)
        if not is_bell(bell, names[:number], len(rows)):
            raise NoText(number)
        bells.append(bell)
    return tuple(bells)
