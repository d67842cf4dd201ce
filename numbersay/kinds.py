"""Kinds of names, such as the one that tells which one or what part."""

from numbersay.errors import BadKind, BadRow, NoKind
from numbersay.pairs import are_word_pairs
from numbersay.rows import is_row, row_of, words_in
from numbersay.rules import TIE, is_word, small_letters
from numbersay.sounds import name_of, said
from numbersay.tongues import words_of
from numbersay.ways import Reading, chart_through, numbers_through, ways_through


class Kind:
    """How a row's last word is turned, or what is tied behind it, in a kind of names."""

    def __init__(self, title, ending, turns):
        self.title = title
        self.ending = ending
        self.turns = list(turns)
        if not small_letters(title, 1, 8):
            raise BadKind("the title is no text of 1 to 8 small letters")
        if not is_word(ending):
            raise BadKind("the ending is no word")
        if not are_word_pairs(self.turns):
            raise BadKind("the turns are no pairs of words, or two have the same first one")


def kind_of(tongue, title):
    """The kind of this title."""
    for kind in tongue.kinds:
        if kind.title == title:
            return kind
    raise NoKind("the tongue has no kind of this title")


def turned(kind, row):
    """The kind's row of a row."""
    turns = dict(kind.turns)
    if row[-1] in turns:
        return row[:-1] + [turns[row[-1]]]
    return row + [TIE, kind.ending]


def kind_row(tongue, title, row):
    """The row of a kind, of a row."""
    kind = kind_of(tongue, title)
    if not is_row(row):
        raise BadRow("this list of texts is no row")
    return turned(kind, row)


def kind_name(tongue, title, number):
    """The name of a kind, of a number, or None."""
    kind = kind_of(tongue, title)
    row = row_of(tongue, number)
    return None if row is None else said(tongue, turned(kind, row))


def kind_numbers(tongue, title, text):
    """The rising list of the numbers whose name of a kind is just this text."""
    return numbers_through(kind_reading(tongue, title, text))


def share_name(tongue, title, many, whole):
    """The name of so many parts of a whole cut into so many, or None."""
    ahead = name_of(tongue, many)
    behind = kind_name(tongue, title, whole)
    return None if ahead is None or behind is None else f"{ahead} {behind}"


def shares_in(tongue, title, text):
    """The rising list of the pairs (many, whole) whose share's name is just this text."""
    reading = kind_reading(tongue, title, text)
    ways = ways_through(reading)
    # No tie stands between the two: where a row ends and another one begins, there is a blank.
    ahead = chart_through(reading, ways, [0]).found[0]
    behind = chart_through(reading, ways, list(ahead)).found
    end = len(ways) - 1
    return sorted([
        (many, whole) for place in ahead for many in ahead[place] for whole in behind[place].get(end, {})
    ])


def kind_reading(tongue, title, text):
    """The reading of a text in which the last word is said as in a kind."""
    kind = kind_of(tongue, title)
    return Reading(tongue, text, " ", {word: words_in(turned(kind, [word])) for word in words_of(tongue)})
