"""Rows: the words and ties by which a number is said."""

from numbersay.rules import SIGNS, TIE, count_words, is_word, parts_of, ties_fit
from numbersay.tongues import rule_for

MOST_WORDS = 40


def row_of(tongue, number):
    """The row of a number, or None."""
    steps = steps_of(tongue, number)
    if steps is None:
        return None
    rows = []
    # Parts stand behind their number: from the end, their rows are made when it comes, the first one on top.
    for step in reversed(steps):
        row = []
        for piece in tongue.rules[step[1]].pieces:
            row.extend(rows.pop() if piece in SIGNS else [piece])
        rows.append(row)
    return rows.pop()


def steps_of(tongue, number):
    """The numbers that the row of a number is put together of, with the places of their rules, or None."""
    steps = []
    words = 0
    waiting = [number]
    while waiting:
        part = waiting.pop()
        place = rule_for(tongue, part)
        if place is None:
            return None
        rule = tongue.rules[place]
        words += count_words(rule)
        # Each rule has a word, so what would never end is left here too.
        if words > MOST_WORDS:
            return None
        steps.append((part, place))
        parts = parts_of(rule, part)
        waiting.extend(list(parts.values())[::-1])
    return steps


def words_in(row):
    """A list of texts without its ties."""
    return [text for text in row if text != TIE]


def is_row(row):
    """Whether a list of texts is a row."""
    if not row or not all(text == TIE or is_word(text) for text in row):
        return False
    return ties_fit(row)
