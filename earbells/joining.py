"""Two choirs joined by ties."""

from earbells.choirs import checked, names_of
from earbells.errors import NoName


def refuse_names_of_both(one, other):
    for name in names_of(other):
        if name in names_of(one):
            raise NoName(name)


def refuse_strange_ties(ties, names):
    for tie in ties:
        for name in tie[:2]:
            if name not in names:
                raise NoName(name)


def moved(bell, by):
    listenings = [(listening[0] + by, listening[1], listening[2]) for listening in bell[3]]
    return (bell[0], bell[1], bell[2], tuple(listenings))


def tied(bell, ties, names):
    added = [(names.index(tie[1]), tie[2], tie[3]) for tie in ties if tie[0] == bell[0]]
    return (bell[0], bell[1], bell[2], bell[3] + tuple(added))


def joined(one, other, ties):
    refuse_names_of_both(one, other)
    names = names_of(one) + names_of(other)
    refuse_strange_ties(ties, names)
    bells = list(one) + [moved(bell, len(one)) for bell in other]
    return checked(tuple([tied(bell, ties, names) for bell in bells]))
