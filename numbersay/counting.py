"""Counting on, by names alone."""

from numbersay.errors import NoName, Unclear
from numbersay.sounds import name_of
from numbersay.texts import numbers_in


def count_on(tongue, name, many):
    """The names of the next numbers behind the one of this name, as far as there are names."""
    numbers = numbers_in(tongue, name)
    if not numbers:
        raise NoName("no number has this name")
    if len(numbers) > 1:
        raise Unclear("two or more numbers have this name")
    names = []
    for step in range(many):
        behind = name_of(tongue, numbers[0] + step + 1)
        if behind is None:
            break
        names.append(behind)
    return names
