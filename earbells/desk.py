"""The desk: it keeps choirs, each by a word, is told rows and answers texts."""

from earbells.alike import held_against, refuse_names_not_in_both
from earbells.choirs import is_word, names_of, place_of
from earbells.choirtexts import read_choir, show_choir
from earbells.errors import NoRow, NoStand
from earbells.joining import joined
from earbells.rings import pace
from earbells.rounds import round_of
from earbells.slower import made_slower
from earbells.strokes import strokes
from earbells.waiting import waiting
from earbells.wholes import is_whole_within, is_written_whole

MOST_FIGURES = 4
MOST_STROKES = 2000
MOST_OF_ROUND = 500

# What follows a row's first word: c a choir's word, b a bell's name, n a
# number. The row choir is none of these: all behind its word is one text.
FORMS = {
    "drop": "c",
    "show": "c",
    "stroke": "cbn",
    "waits": "c",
    "pace": "cb",
    "ring": "cb",
    "round": "cn",
    "alike": "ccnb",
    "slow": "cbnn",
    "join": "ccc",
}


def form_of(words):
    if words[0] not in FORMS:
        raise NoRow()
    form = FORMS[words[0]]
    if words[0] == "alike":
        return form + "b" * (len(words) - 1 - len(form))
    return form


def refuse_wrong_words(words):
    form = form_of(words)
    if len(words) - 1 != len(form):
        raise NoRow()
    for sort, word in zip(form, words[1:]):
        good = is_written_whole(word, MOST_FIGURES) if sort == "n" else is_word(word)
        if not good:
            raise NoRow()


def refuse_beyond(number, least, most):
    if not is_whole_within(number, least, most):
        raise NoRow()


def tell_stroke(choir, bell, n):
    refuse_beyond(n, 0, MOST_STROKES)
    beat = strokes(choir, n)[n][bell]
    return "never" if beat is None else str(beat)


def tell_waits(choir):
    names = waiting(choir)
    return "none" if len(names) == 0 else " ".join(names)


def tell_pace(choir, bell):
    mean = pace(choir, bell)[0]
    top = mean[0]
    bottom = mean[1]
    return f"{top}/{bottom}"


def tell_ring(choir, bell):
    names = names_of(choir)
    return " ".join([names[step[0]] for step in pace(choir, bell)[2]])


def tell_round(choir, most):
    refuse_beyond(most, 1, MOST_OF_ROUND)
    told = round_of(choir, most)
    return "none" if told == ("none",) else " ".join([str(part) for part in told[1:]])


def tell_alike(one, other, most, names):
    # Asked here too, as a strange name comes ahead of a number beyond its bounds.
    refuse_names_not_in_both(one, other, names)
    refuse_beyond(most, 1, MOST_OF_ROUND)
    told = held_against(one, other, names, most)
    return "alike" if told == ("alike",) else " ".join([str(part) for part in told[1:]])


# The answer to a row that asks for one choir, and leaves it as it is.
def tell_of(choir, words):
    if words[0] == "show":
        return "; ".join(show_choir(choir))
    if words[0] == "waits":
        return tell_waits(choir)
    if words[0] == "round":
        return tell_round(choir, int(words[2]))
    bell = place_of(choir, words[2])
    if words[0] == "stroke":
        return tell_stroke(choir, bell, int(words[3]))
    if words[0] == "pace":
        return tell_pace(choir, bell)
    return tell_ring(choir, bell)


class Desk:
    def __init__(self):
        self.stands = {}

    def say(self, row):
        if not isinstance(row, str):
            raise NoRow()
        words = row.split(" ")
        if words[0] == "choir":
            return self.say_choir(row.split(" ", 2))
        refuse_wrong_words(words)
        if words[0] == "drop":
            return self.say_drop(words)
        if words[0] == "slow":
            return self.say_slow(words)
        if words[0] == "join":
            return self.say_join(words)
        if words[0] == "alike":
            return tell_alike(self.standing(words[1]), self.standing(words[2]), int(words[3]), words[4:])
        return tell_of(self.standing(words[1]), words)

    def standing(self, word):
        if word not in self.stands:
            raise NoStand()
        return self.stands[word]

    def keep(self, word, choir):
        self.stands[word] = choir
        return "ok"

    # parts: the first word, the choir's word, and all behind it
    def say_choir(self, parts):
        if len(parts) < 3 or not is_word(parts[1]):
            raise NoRow()
        return self.keep(parts[1], read_choir(parts[2].split("; ")))

    def say_drop(self, words):
        self.standing(words[1])
        self.stands.pop(words[1])
        return "ok"

    def say_slow(self, words):
        choir = self.standing(words[1])
        bell = place_of(choir, words[2])
        return self.keep(words[1], made_slower(choir, bell, int(words[3]), int(words[4])))

    def say_join(self, words):
        one = self.standing(words[2])
        other = self.standing(words[3])
        return self.keep(words[1], joined(one, other, []))
