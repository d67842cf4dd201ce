"""Tongues turned into others, and tongues set side by side."""

from numbersay.errors import BadPairs
from numbersay.pairs import are_word_pairs, exchanged
from numbersay.rows import row_of
from numbersay.rules import Rule
from numbersay.sounds import name_of
from numbersay.texts import numbers_in
from numbersay.tongues import Tongue, words_of


def reworded(tongue, pairs):
    """The tongue with its words exchanged, without melts and kinds."""
    check_pairs(pairs)
    words = words_of(tongue)
    if len(set(exchanged(words, pairs))) < len(words):
        raise BadPairs("two words of the tongue would become one")
    return Tongue(tongue.bound, [with_pieces(rule, exchanged(rule.pieces, pairs)) for rule in tongue.rules])


def mirrored(tongue):
    """The tongue with each rule's pieces in the other order, without melts and kinds."""
    return Tongue(tongue.bound, [with_pieces(rule, rule.pieces[::-1]) for rule in tongue.rules])


def check_pairs(pairs):
    """Refuse what are no pairs of words, and two with the same first one."""
    if not are_word_pairs(pairs):
        raise BadPairs("something in the pairs is no word, or two have the same first one")


def with_pieces(rule, pieces):
    """The rule with other pieces."""
    return Rule(rule.low, rule.high, rule.base, rule.first, rule.last, pieces)


def put_over(one, other, name):
    """The names in the other tongue of the numbers that have this name in the first one."""
    names = [name_of(other, number) for number in numbers_in(one, name)]
    return [text for text in names if text is not None]


def agree(one, other, pairs, most):
    """The least number from nought to most on which two tongues do not agree, or None."""
    check_pairs(pairs)
    for number in range(most + 1):
        row = row_of(one, number)
        if row is not None:
            row = exchanged(row, pairs)
        if row != row_of(other, number):
            return number
    return None
