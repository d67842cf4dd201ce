"""The looker: numbers without a name, names of several numbers, and numbers said freely in several rows."""

from numbersay.free import FreeSayer
from numbersay.sounds import name_of


def how_many(tongue, most):
    """How many numbers are gone through, from nought to most, or to bound where that is less."""
    return max(0, min(most, tongue.bound) + 1)


def looked(tongue, most):
    """The first number that has no name or that of a lesser one, or how many numbers were gone through."""
    least = {}
    count = how_many(tongue, most)
    for number in range(count):
        name = name_of(tongue, number)
        if name is None:
            return ("nameless", number)
        if name in least:
            return ("same", least[name], number)
        least[name] = number
    return ("one", count)


def nameless(tongue, most):
    """The rising list of the numbers gone through that have no name."""
    return [number for number in range(how_many(tongue, most)) if name_of(tongue, number) is None]


def doubles(tongue, most):
    """The rising list of the names of two or more numbers gone through, each with the rising list of these."""
    bearers = {}
    for number in range(how_many(tongue, most)):
        name = name_of(tongue, number)
        if name is not None:
            bearers.setdefault(name, []).append(number)
    return sorted([(name, numbers) for name, numbers in bearers.items() if len(numbers) > 1])


def first_free(tongue, most, words):
    """The least number gone through that can be said freely in several rows of so many words, with these, or None."""
    sayer = FreeSayer(tongue)
    for number in range(how_many(tongue, most)):
        rows = sayer.rows_within(number, words)
        if len(rows) > 1:
            return (number, [list(row) for row in rows])
    return None
