"""Two choirs held against one another: where they part, or that they never do."""

from earbells.choirs import names_of, place_of
from earbells.errors import NoName, NoRound
from earbells.rounds import round_of
from earbells.strokes import strokes
from earbells.waiting import refuse_waiting


def refuse_names_not_in_both(one, other, names):
    for name in names:
        if name not in names_of(one) or name not in names_of(other):
            raise NoName(name)


# The parting up to the stroke many, or None.
def first_parting(one, other, names, many):
    for n, pair in enumerate(zip(strokes(one, many), strokes(other, many))):
        for name in names:
            beat = pair[0][place_of(one, name)]
            other_beat = pair[1][place_of(other, name)]
            if beat != other_beat:
                return ("part", n, name, beat, other_beat)
    return None


def held_against(one, other, names, most):
    refuse_names_not_in_both(one, other, names)
    refuse_waiting(one)
    refuse_waiting(other)
    parting = first_parting(one, other, names, most)
    if parting is not None:
        return parting
    first_round = round_of(one, most)
    second_round = round_of(other, most)
    if first_round == ("none",) or second_round == ("none",):
        raise NoRound(most)
    # In rounds the beats between strokes come again, in the one choir after
    # its MANY, in the other after its own. Two such rows that agree for both
    # MANYs together agree for ever (Fine and Wilf); that may lie behind most.
    enough = max(first_round[1], second_round[1]) + first_round[2] + second_round[2]
    parting = first_parting(one, other, names, enough)
    return ("alike",) if parting is None else parting
