"""Charts: from places along a way of words, the numbers whose rows lead on to other places."""

from numbersay.rules import REST_SIGNS, SIGNS, rest_from, times_from
from numbersay.tongues import rule_for


class Chart:
    """A way along which numbers are read.

    ways has a list for each place, of pairs of a text and the place behind it, always a later one; None stands for
    any text. pieces has the pieces of each rule, as they stand along the way. found has for each place a dict from
    later places to dicts with the numbers that lead there."""

    def __init__(self, tongue, pieces, ways):
        self.tongue = tongue
        self.pieces = pieces
        self.ways = ways
        self.found = [{} for way in ways]


def numbers_along(tongue, pieces, ways):
    """The rising list of the numbers that lead from the first place to the last one."""
    chart = Chart(tongue, pieces, ways)
    # Parts that do not begin a rule begin at later places, and must have been found there.
    for start in reversed(range(len(ways))):
        find_from(chart, start)
    return sorted(chart.found[0].get(len(ways) - 1, {}))


def find_from(chart, start):
    """Find the numbers that lead on from a place, where those from later places are found."""
    for rule_place, pieces in enumerate(chart.pieces):
        if pieces[0] not in SIGNS:
            find_by(chart, start, rule_place, {(start, None, None): True}, 0)
    # A part that begins a rule is shorter than the whole, so it is found when its end comes.
    for end in range(start + 1, len(chart.ways)):
        numbers = list(chart.found[start].get(end, {}))
        for rule_place, pieces in enumerate(chart.pieces):
            if numbers and pieces[0] in SIGNS:
                rule = chart.tongue.rules[rule_place]
                states = {}
                add_parts(states, rule, pieces[0], (start, None, None), end, numbers)
                find_by(chart, start, rule_place, states, 1)


def find_by(chart, start, rule_place, states, done):
    """Find the numbers of a rule that lead on from a place, some of its pieces being done.

    A state is a place, how often base goes into the number and its rest by base, None for what is not known yet."""
    rule = chart.tongue.rules[rule_place]
    for piece in chart.pieces[rule_place][done:]:
        states = past_part(chart, rule, piece, states) if piece in SIGNS else past_text(chart, piece, states)
    for end, times, rest in states:
        if times is None:
            times = times_from(rule, {})
        if rest is None:
            rest = rest_from(rule, {})
        number = rule.base * times + rest
        if rule_for(chart.tongue, number) == rule_place:
            chart.found[start].setdefault(end, {})[number] = True


def past_text(chart, piece, states):
    """The states behind a word or a tie."""
    behind = {}
    for place, times, rest in states:
        for text, end in chart.ways[place]:
            if text is None or text == piece:
                behind[(end, times, rest)] = True
    return behind


def past_part(chart, rule, sign, states):
    """The states behind a part."""
    behind = {}
    for state in states:
        for end, numbers in chart.found[state[0]].items():
            add_parts(behind, rule, sign, state, end, numbers)
    return behind


def add_parts(behind, rule, sign, state, end, numbers):
    """Add the states to which those of numbers lead that can be this part."""
    times, rest = state[1:]
    for number in numbers:
        if sign in REST_SIGNS:
            told = rest_told(rule, sign, number)
            if told is not None and rest in (None, told):
                behind[(end, times, told)] = True
        else:
            told = times_told(rule, sign, number)
            if told is not None and times in (None, told):
                behind[(end, told, rest)] = True


def times_told(rule, sign, number):
    """How often base goes into the numbers of a rule that have this part, or None where there are none."""
    if sign in ("W", "U") and number % rule.base != 0:
        return None
    times = times_from(rule, {sign: number})
    return times if rule.low // rule.base <= times <= rule.high // rule.base else None


def rest_told(rule, sign, number):
    """The rest by base of the numbers of a rule that have this part, or None where there are none."""
    rest = rest_from(rule, {sign: number})
    return rest if rule.first <= rest <= rule.last else None
