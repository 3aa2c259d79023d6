"""A listening made slower, and the strokes that fall later by it."""

from earbells.choirs import MOST_BEATS
from earbells.errors import NoListening
from earbells.strokes import strokes
from earbells.wholes import is_whole_within


def with_other(things, place, thing):
    return things[:place] + (thing,) + things[place + 1:]


def refuse_beyond(number, most):
    if not is_whole_within(number, 0, most):
        raise NoListening()


def made_slower(choir, bell, place, more):
    refuse_beyond(bell, len(choir) - 1)
    listenings = choir[bell][3]
    refuse_beyond(place, len(listenings) - 1)
    listening = listenings[place]
    refuse_beyond(more, MOST_BEATS - listening[1])
    slower = (listening[0], listening[1] + more, listening[2])
    return with_other(choir, bell, with_other(choir[bell], 3, with_other(listenings, place, slower)))


def later_strokes(choir, bell, place, more, many):
    slower = made_slower(choir, bell, place, more)
    told = []
    for n, pair in enumerate(zip(strokes(choir, many), strokes(slower, many))):
        for number, beat in enumerate(pair[0]):
            # What never falls never does so in both.
            if beat is not None and pair[1][number] > beat:
                told.append((n, choir[number][0], pair[1][number] - beat))
    return sorted(told)
