"""Bells that wait for one another for ever, and the strokes at which bells stop."""

from earbells.errors import Waiting
from earbells.strokes import strokes


def waiting(choir):
    return [bell[0] for bell, beat in zip(choir, strokes(choir, 1)[1]) if beat is None]


def first_missing(told, number):
    for n, beats in enumerate(told):
        if beats[number] is None:
            return n
    return None


def stops(choir):
    # What is lost at a stroke is lost at every later one, and after a stroke
    # at which no further bell is lost none ever is: so each bell that stops
    # does so at latest at the stroke that has the number of the bells.
    told = strokes(choir, len(choir))
    return [first_missing(told, number) for number in range(len(choir))]


def refuse_waiting(choir):
    names = waiting(choir)
    if len(names) > 0:
        raise Waiting(names)
