"""Strokes: the beats at which the bells of a choir strike."""

from earbells.choirs import rule_of_bell


# before: the strokes n - 1 of all bells; now: the strokes n found so far
def listening_comes(listening, before, now):
    stroke = before[listening[0]] if listening[2] == 1 else now[listening[0]]
    return None if stroke is None else stroke + listening[1]


# The tuple (beat, number) of the bell not yet found that is next, or None.
def next_found(choir, rules, before, now):
    best = None
    for number, bell in enumerate(choir):
        if now[number] is None:
            beat = rules[number].falls([listening_comes(listening, before, now) for listening in bell[3]])
            if beat is not None and (best is None or beat < best[0]):
                best = (beat, number)
    return best


# The least beat first: as every listening takes a beat or more, nothing found
# later could have made it fall sooner.
def strokes_behind(choir, rules, before):
    now = [None for bell in choir]
    found = next_found(choir, rules, before, now)
    while found is not None:
        now[found[1]] = found[0]
        found = next_found(choir, rules, before, now)
    return now


def strokes(choir, many):
    rules = [rule_of_bell(bell) for bell in choir]
    told = []
    for n in range(many + 1):
        if n == 0:
            told.append([bell[1] for bell in choir])
        else:
            told.append(strokes_behind(choir, rules, told[n - 1]))
    return told


def heard(choir, first, last):
    # A stroke n falls n beats or more behind the least START.
    many = last - min([bell[1] for bell in choir])
    told = []
    for n, beats in enumerate(strokes(choir, many)):
        for bell, beat in zip(choir, beats):
            if beat is not None and first <= beat <= last:
                told.append((beat, bell[0], n))
    return sorted(told)
