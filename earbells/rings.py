"""Rings: the ring of listenings that sets a bell's pace, with numbers that show it.

A ring is a list of tuples (BELL, PLACE). A side is 1 where all rules want all
and the slowest ring is sought, -1 where all want one and it is the quickest.
The ring is sought from a mean that every ring beats: as long as some ring
beats the mean, that ring's own mean takes its place. Where none does any
more, the heights that have settled are the numbers that show it.
"""

from earbells.choirs import rule_of_bell
from earbells.errors import Mixed
from earbells.fractions import fraction
from earbells.hearing import hears
from earbells.waiting import refuse_waiting


def side_of(choir):
    if all([rule_of_bell(bell).wants() == len(bell[3]) for bell in choir]):
        return 1
    if all([rule_of_bell(bell).wants() == 1 for bell in choir]):
        return -1
    raise Mixed()


# As the quickest ring is sought among those with backs above 0, a mean above
# the beats of all listenings is beaten by each of these and by no other ring.
def mean_that_all_beat(choir, side):
    if side == 1:
        return (0, 1)
    return (sum([sum([listening[1] for listening in bell[3]]) for bell in choir]) + 1, 1)


# Counted in parts of the mean's bottom, so that all stays whole: round a ring
# the sum is above 0 just where the ring beats the mean.
def gain(listening, mean, side):
    return side * (listening[1] * mean[1] - listening[2] * mean[0])


# Lifts each bell as high as its listenings ask, keeps the place of the one
# that asked, and tells the last bell lifted, or None.
def lift_once(choir, bells, gains, heights, places):
    lifted = None
    for bell in bells:
        for place, listening in enumerate(choir[bell][3]):
            height = heights[listening[0]] + gains[bell][place]
            if height > heights[bell]:
                heights[bell] = height
                places[bell] = place
                lifted = bell
    return lifted


def ring_from(choir, places, bell):
    ring = [(bell, places[bell])]
    after = choir[bell][3][places[bell]][0]
    while after != bell:
        ring.append((after, places[after]))
        after = choir[after][3][places[after]][0]
    return ring


# A tuple (heights, ring): the heights where they settle, and no ring; else
# no heights, and a ring that beats the mean.
def settled(choir, bells, mean, side):
    gains = [[gain(listening, mean, side) for listening in bell[3]] for bell in choir]
    heights = [0 for bell in choir]
    places = [None for bell in choir]
    lifted = None
    for turn in range(len(bells)):
        lifted = lift_once(choir, bells, gains, heights, places)
        if lifted is None:
            return (heights, None)
    # Without such a ring as many turns as bells would have been enough. From
    # a bell lifted in the last one so many steps end within the ring.
    for turn in range(len(bells)):
        lifted = choir[lifted][3][places[lifted]][0]
    return (None, ring_from(choir, places, lifted))


def mean_of(choir, ring):
    listenings = [choir[bell][3][place] for bell, place in ring]
    beats = sum([listening[1] for listening in listenings])
    backs = sum([listening[2] for listening in listenings])
    return fraction(beats, backs)


def way_to(choir, bell, goal):
    ways = {bell: []}
    while goal not in ways:
        for reached in list(ways):
            for place, listening in enumerate(choir[reached][3]):
                if listening[0] not in ways:
                    ways[listening[0]] = ways[reached] + [(reached, place)]
    return ways[goal]


def pace(choir, bell):
    refuse_waiting(choir)
    side = side_of(choir)
    bells = sorted(set([bell] + hears(choir, bell)))
    mean = mean_that_all_beat(choir, side)
    ring = None
    found = settled(choir, bells, mean, side)
    while found[0] is None:
        ring = found[1]
        mean = mean_of(choir, ring)
        found = settled(choir, bells, mean, side)
    numbers = [None for other in choir]
    for other in bells:
        numbers[other] = fraction(side * found[0][other], mean[1])
    return (mean, way_to(choir, bell, ring[0][0]), ring, numbers)
