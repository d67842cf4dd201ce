"""Rules: which numbers one covers, and of which parts it puts their names together."""

from numbersay.errors import BadParts, BadRule, NotCovered

TIE = "+"
TIMES_SIGNS = ("Q", "N", "W", "U")
REST_SIGNS = ("R", "K")
SIGNS = ("Q", "N", "W", "U", "R", "K")
MOST_PIECES = 8


def small_letters(text, least, most):
    """Whether this is a text of least to most letters, all of them from a to z."""
    if not isinstance(text, str) or not least <= len(text) <= most:
        return False
    return all("a" <= letter <= "z" for letter in text)


def is_word(text):
    """Whether a text is a word."""
    return small_letters(text, 2, 10)


class Rule:
    """How the numbers from low to high are said whose rest by base is from first to last."""

    def __init__(self, low, high, base, first, last, pieces):
        self.low = low
        self.high = high
        self.base = base
        self.first = first
        self.last = last
        self.pieces = list(pieces)
        check_numbers(self)
        check_pieces(self.pieces)
        check_telling(self)


def check_numbers(rule):
    """Refuse a rule whose numbers do not go together."""
    if rule.low < 0:
        raise BadRule("low is below nought")
    if rule.high < rule.low:
        raise BadRule("high is below low")
    if rule.base < 2:
        raise BadRule("base is below two")
    if rule.first < 0:
        raise BadRule("first is below nought")
    if rule.last < rule.first:
        raise BadRule("last is below first")
    if rule.last >= rule.base:
        raise BadRule("last is not below base")


def check_pieces(pieces):
    """Refuse pieces of which no name can be put together."""
    if not 1 <= len(pieces) <= MOST_PIECES:
        raise BadRule("there are no pieces, or too many")
    if not all(is_piece(piece) for piece in pieces):
        raise BadRule("a piece is no word, no part's sign and no tie")
    if not any(is_word(piece) for piece in pieces):
        raise BadRule("there is no word among the pieces")
    if any(pieces.count(sign) > 1 for sign in SIGNS):
        raise BadRule("a part's sign stands there twice")
    if not ties_fit(pieces):
        raise BadRule("a tie does not stand between two other pieces")


def is_piece(text):
    """Whether a text is a word, a part's sign or a tie."""
    return text == TIE or text in SIGNS or is_word(text)


def ties_fit(pieces):
    """Whether no tie stands at the begin, at the end or behind a tie, of at least one piece."""
    if pieces[0] == TIE or pieces[-1] == TIE:
        return False
    return not any(ahead == TIE and behind == TIE for ahead, behind in zip(pieces, pieces[1:]))


def check_telling(rule):
    """Refuse a rule whose pieces leave out what its numbers differ in."""
    if rule.first != rule.last and not has_any(rule, REST_SIGNS):
        raise BadRule("the pieces do not tell the rest")
    if rule.low // rule.base != rule.high // rule.base and not has_any(rule, TIMES_SIGNS):
        raise BadRule("the pieces do not tell how often base goes into the number")


def has_any(rule, signs):
    """Whether at least one of these parts' signs is among a rule's pieces."""
    return any(sign in rule.pieces for sign in signs)


def signs_of(rule):
    """The parts' signs among a rule's pieces, in their order."""
    return [piece for piece in rule.pieces if piece in SIGNS]


def count_words(rule):
    """How many words are among a rule's pieces."""
    return len([piece for piece in rule.pieces if is_word(piece)])


def covers(rule, number):
    """Whether a rule covers a number."""
    return rule.low <= number <= rule.high and rule.first <= number % rule.base <= rule.last


def parts_of(rule, number):
    """The number that each part's sign of a rule stands for, of a number that the rule covers."""
    if not covers(rule, number):
        raise NotCovered("the rule does not cover the number")
    times, rest = divmod(number, rule.base)
    numbers = {
        "Q": times,
        "N": times + 1,
        "W": rule.base * times,
        "U": rule.base * (times + 1),
        "R": rest,
        "K": rule.base - rest,
    }
    return {sign: numbers[sign] for sign in signs_of(rule)}


def numbers_from(rule, parts):
    """The numbers, none or one, that a rule covers and that have just these parts."""
    if set(parts) != set(signs_of(rule)):
        raise BadParts("the parts' signs are not those of the rule")
    number = rule.base * times_from(rule, parts) + rest_from(rule, parts)
    # One part is enough to come to a number, but the others may contradict it.
    if covers(rule, number) and parts_of(rule, number) == parts:
        return [number]
    return []


def times_from(rule, parts):
    """How often base goes into the one number that may have these parts."""
    if "Q" in parts:
        return parts["Q"]
    if "N" in parts:
        return parts["N"] - 1
    if "W" in parts:
        return parts["W"] // rule.base
    if "U" in parts:
        return parts["U"] // rule.base - 1
    # Without these signs a rule is refused unless low and high are alike in this.
    return rule.low // rule.base


def rest_from(rule, parts):
    """The rest by base of the one number that may have these parts."""
    if "R" in parts:
        return parts["R"]
    if "K" in parts:
        return rule.base - parts["K"]
    # Without these signs a rule is refused unless first and last are alike.
    return rule.first
