"""Rounds: the strokes from which on a choir goes round."""

from earbells.strokes import strokes
from earbells.waiting import refuse_waiting


def round_of(choir, most):
    refuse_waiting(choir)
    told = strokes(choir, most)
    # Two strokes are one number of beats apart for all bells just where they
    # are alike as counted from the first bell's.
    shapes = [[beat - beats[0] for beat in beats] for beats in told]
    for first in range(len(told)):
        for later in range(first + 1, len(told)):
            if shapes[later] == shapes[first]:
                return ("round", first, later - first, told[later][0] - told[first][0])
    return ("none",)
