"""Texts read: the numbers that bear a name, and the rows that are said so."""

from numbersay.tongues import words_of
from numbersay.ways import Reading, numbers_through, ways_through


def numbers_in(tongue, text):
    """The rising list of the numbers whose name is just this text."""
    return numbers_through(plain_reading(tongue, text, " "))


def run_together(tongue, text):
    """The rising list of the numbers whose name is this text, where blanks do not count."""
    return numbers_through(plain_reading(tongue, text.replace(" ", ""), ""))


def rows_in(tongue, text):
    """The rising list of the rows of a tongue's words that are said so."""
    ways = ways_through(plain_reading(tongue, text, " "))
    rows = []
    begun = [([], 0)]
    while begun:
        longer = [(row + [piece], behind) for row, place in begun for piece, behind in ways[place]]
        rows.extend([row for row, place in longer if place == len(ways) - 1])
        begun = longer
    return sorted(rows)


def plain_reading(tongue, text, gap):
    """The reading of a text in which the last word is said as it is."""
    return Reading(tongue, text, gap, {word: [word] for word in words_of(tongue)})
