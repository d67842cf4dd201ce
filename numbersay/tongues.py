"""Tongues: rules in order, up to a bound, with melts and kinds."""

from numbersay.errors import BadBound, BadMelt, Twice
from numbersay.rules import covers, is_word, small_letters


class Tongue:
    """A tongue in which numbers from nought to bound are said."""

    def __init__(self, bound, rules, melts=None, kinds=None):
        self.bound = bound
        self.rules = list(rules)
        self.melts = own_list(melts)
        self.kinds = own_list(kinds)
        if bound < 0:
            raise BadBound("bound is below nought")
        if not all(is_melt(melt) for melt in self.melts):
            raise BadMelt("there is something else among the melts")
        check_titles(self.kinds)


def own_list(given):
    """A new list of what is given, the empty one for None."""
    return [] if given is None else list(given)


def is_melt(melt):
    """Whether this is a melt: (ahead, behind, made)."""
    if not isinstance(melt, tuple) or len(melt) != 3:
        return False
    ahead, behind, made = melt
    if not (small_letters(ahead, 1, 3) and small_letters(behind, 1, 3) and small_letters(made, 1, 6)):
        return False
    return len(made) >= len(ahead) + len(behind) - 1


def check_titles(kinds):
    """Refuse two kinds of one title."""
    titles = []
    for kind in kinds:
        if kind.title in titles:
            raise Twice(kind.title)
        titles.append(kind.title)


def rule_for(tongue, number):
    """The place of the first rule that covers a number from nought to bound, or None."""
    if not 0 <= number <= tongue.bound:
        return None
    for place, rule in enumerate(tongue.rules):
        if covers(rule, number):
            return place
    return None


def words_of(tongue):
    """The rising list of the words among the pieces of a tongue's rules, each once."""
    return sorted({piece for rule in tongue.rules for piece in rule.pieces if is_word(piece)})
