"""Rows read: the numbers that bear the words that were heard."""

from numbersay.charts import chart_along, numbers_to_end
from numbersay.errors import BadRow
from numbersay.rows import MOST_WORDS, is_row, words_in


def heard(tongue, words):
    """The rising list of the numbers whose row has these words, None standing for one that was not heard."""
    return numbers_read(tongue, words, [words_in(rule.pieces) for rule in tongue.rules])


def readings(tongue, row):
    """The rising list of the numbers whose row is just this one."""
    if not is_row(row):
        raise BadRow("this list of texts is no row")
    return numbers_read(tongue, row, [rule.pieces for rule in tongue.rules])


def numbers_read(tongue, texts, pieces):
    """The rising list of the numbers that the texts, one behind another, are read to."""
    if len(words_in(texts)) > MOST_WORDS:
        return []
    ways = [[(text, place + 1)] for place, text in enumerate(texts)]
    return numbers_to_end(chart_along(tongue, pieces, ways + [[]], [0]))
