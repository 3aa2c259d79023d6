"""Choirs for the tests, and slow ways to reckon what the program tells.

Nothing here is drawn from the package: each way goes back to the document.
"""

import itertools
import math
from fractions import Fraction

NAMES = ["treble", "tenor", "b", "quintbel", "mid", "low"]


class Chooser:
    """The same choices in each run, under each Python."""

    def __init__(self, seed):
        self.state = seed * 2654435761 + 12345

    def below(self, bound):
        self.state = (self.state * 6364136223846793005 + 1442695040888963407) % 2 ** 64
        return (self.state >> 33) % bound

    def between(self, least, most):
        return least + self.below(most - least + 1)

    def one_of(self, things):
        return things[self.below(len(things))]


def wants(rule, many):
    return {"all": many, "any": 1}.get(rule, rule)


def some_rule(chooser, sort, many):
    if sort == "all":
        return chooser.one_of(["all", many])
    if sort == "any":
        return chooser.one_of(["any", 1])
    return chooser.one_of(["all", "any"] + list(range(1, many + 1)))


def some_choir(seed, sort="mixed", bells=None, top=9, backs=(0, 1, 1)):
    """A choir; its rules all want all, or all want one, or as they come."""
    chooser = Chooser(seed)
    many = bells or chooser.between(1, 6)
    made = []
    for name in NAMES[:many]:
        listenings = tuple(
            (chooser.below(many), chooser.between(1, top), chooser.one_of(backs))
            for turn in range(chooser.between(1, 6 if seed % 5 == 0 else 3)))
        rule = some_rule(chooser, sort, len(listenings))
        made.append((name, chooser.between(0, 12), rule, listenings))
    return tuple(made)


def strokes_beat_by_beat(choir, many, until):
    """Beats of strokes 0 to many, by going through the beats 0 to until.

    A stroke that doesn't fall up to then is None.
    """
    told = [[None] * len(choir) for n in range(many + 1)]
    for beat in range(until + 1):
        for number, (name, start, rule, listenings) in enumerate(choir):
            if beat == start:
                told[0][number] = start
            for n in range(1, many + 1):
                if told[n][number] is None:
                    come = 0
                    for whom, beats, back in listenings:
                        stroke = told[n - back][whom]
                        if stroke is not None and stroke + beats <= beat:
                            come += 1
                    if come >= wants(rule, len(listenings)):
                        told[n][number] = beat
    return told


def heard_bells(choir, bell):
    found = set()
    edge = {bell}
    while edge:
        edge = {listening[0] for at in edge for listening in choir[at][3]} - found
        found |= edge
    return sorted(found)


def all_rings(choir, bells):
    """Every ring over the bells, each once, begun at its least bell."""
    for size in range(1, len(bells) + 1):
        for order in itertools.permutations(bells, size):
            if order[0] != min(order):
                continue
            turned = order[1:] + order[:1]
            ways = [
                [(bell, place) for place, listening in enumerate(choir[bell][3]) if listening[0] == after]
                for bell, after in zip(order, turned)]
            for ring in itertools.product(*ways):
                yield list(ring)


def beats_and_backs(choir, ring):
    listenings = [choir[bell][3][place] for bell, place in ring]
    return (sum(entry[1] for entry in listenings), sum(entry[2] for entry in listenings))


def ring_means(choir, bell):
    """The beats by backs of every ring, with backs above 0, that a bell hears or is in."""
    means = []
    for ring in all_rings(choir, sorted({bell} | set(heard_bells(choir, bell)))):
        beats, backs = beats_and_backs(choir, ring)
        if backs > 0:
            means.append(Fraction(beats, backs))
    return means


def round_by_looking(told):
    """The round in a list of strokes 0 to most, all of which fall."""
    for first in range(len(told)):
        for many in range(1, len(told) - first):
            apart = {late - soon for late, soon in zip(told[first + many], told[first])}
            if len(apart) == 1:
                return ("round", first, many, apart.pop())
    return ("none",)


def lowest_multiple(one, other):
    return one * other // math.gcd(one, other)
