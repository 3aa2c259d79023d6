"""Rules: how many of its listenings a bell wants before it strikes."""

from earbells.errors import NoRule
from earbells.wholes import is_whole


class Rule:
    def __init__(self, need):
        self.need = need

    def wants(self):
        return self.need

    def falls(self, beats):
        come = sorted([beat for beat in beats if beat is not None])
        if len(come) < self.need:
            return None
        return come[self.need - 1]


class All(Rule):
    def __init__(self, many):
        Rule.__init__(self, many)


class Any(Rule):
    def __init__(self):
        Rule.__init__(self, 1)


class Some(Rule):
    def __init__(self, need):
        Rule.__init__(self, need)


def rule_of(word, many):
    # The kind is asked first: a thing of another kind may claim to equal a text.
    if isinstance(word, str):
        return rule_of_text(word, many)
    if is_whole(word) and 1 <= word <= many:
        return Some(word)
    raise NoRule()


def rule_of_text(text, many):
    if text == "all":
        return All(many)
    if text == "any":
        return Any()
    raise NoRule()
