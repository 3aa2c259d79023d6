"""Fractions: tuples (top, bottom) in lowest terms, the bottom from 1 on."""


def greatest_common(one, other):
    while other > 0:
        rest = one % other
        one = other
        other = rest
    return one


def fraction(top, bottom):
    # Of 0 and the bottom it is the bottom: so nought comes out as (0, 1).
    shared = greatest_common(abs(top), bottom)
    return (top // shared, bottom // shared)


def plus(one, other):
    return fraction(one[0] * other[1] + other[0] * one[1], one[1] * other[1])


def minus(one, other):
    return fraction(one[0] * other[1] - other[0] * one[1], one[1] * other[1])


def times(one, whole):
    return fraction(one[0] * whole, one[1])


def less(one, other):
    # Bottoms are above 0, so multiplying by them turns no order round.
    return one[0] * other[1] < other[0] * one[1]
