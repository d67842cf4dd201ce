"""Charts: from places along a way of words, the numbers whose rows lead on to other places."""

from numbersay.rows import MOST_WORDS
from numbersay.rules import REST_SIGNS, SIGNS, count_words, parts_of, rest_from, times_from
from numbersay.tongues import rule_for


class Chart:
    """A way along which numbers are read.

    ways has a list for each place, of pairs of a text and the place behind it, always a later one; None stands for
    any text. pieces has the pieces of each rule, as they stand along the way. found has for each place a dict from
    later places to dicts with the numbers that lead there. counts has how many words the rows of numbers have.

    Rules that are begun are (start, rule_place, done, times, rest): the place where one began, the place of the
    rule, how many of its pieces are done, how often base goes into the number and its rest by base, None for what is
    not known yet. begun has for each place a dict with those that have come there. waiting has those of them that
    wait there for a part: for each place a dict from (rule_place, done) to lists of (start, times, rest)."""

    def __init__(self, tongue, pieces, ways):
        self.tongue = tongue
        self.pieces = pieces
        self.ways = ways
        self.found = [{} for way in ways]
        self.counts = {}
        self.begun = [{} for way in ways]
        self.waiting = [{} for way in ways]


def chart_along(tongue, pieces, ways, starts):
    """The chart of a way, with all numbers found that lead on from these places and all that they need."""
    chart = Chart(tongue, pieces, ways)
    for start in starts:
        begin_rules(chart, start)
    # All steps lead on to later places, so nothing more comes to those that are done.
    for place in range(len(ways)):
        left = list(chart.begun[place])
        while left:
            one = left.pop()
            left.extend(go_on(chart, place, one))
    return chart


def numbers_to_end(chart):
    """The rising list of the numbers that lead from the first place to the last one."""
    return sorted(chart.found[0].get(len(chart.ways) - 1, {}))


def begin_rules(chart, place):
    """Begin all rules at a place; told are those that had not been begun there."""
    return add_begun(chart, place, [(place, rule_place, 0, None, None) for rule_place in range(len(chart.pieces))])


def add_begun(chart, place, ones):
    """Add begun rules that come to a place; told are those that had not come there before."""
    there = chart.begun[place]
    fresh = [one for one in ones if one not in there]
    for one in fresh:
        there[one] = True
    return fresh


def go_on(chart, place, one):
    """Go on with a begun rule; told are those that come to this same place by it."""
    start, rule_place, done, times, rest = one
    if done == len(chart.pieces[rule_place]):
        return go_on_with_whole(chart, place, one)
    piece = chart.pieces[rule_place][done]
    if piece in SIGNS:
        is_first = not chart.waiting[place]
        chart.waiting[place].setdefault((rule_place, done), []).append((start, times, rest))
        return begin_rules(chart, place) if is_first else []
    for text, end in chart.ways[place]:
        if text is None or text == piece:
            add_begun(chart, end, [(start, rule_place, done + 1, times, rest)])
    return []


def go_on_with_whole(chart, place, one):
    """Go on, where all pieces of a rule are done, with those that wait for its number where it began."""
    start = one[0]
    number = whole_number(chart, one)
    if number is None or number in chart.found[start].get(place, {}):
        return []
    chart.found[start].setdefault(place, {})[number] = True
    fresh = []
    for waiting_rule, states in chart.waiting[start].items():
        fresh.extend(past_part(chart, waiting_rule, states, number))
    return add_begun(chart, place, fresh)


def whole_number(chart, one):
    """The number of a rule whose pieces are all done, or None where its row is another one."""
    start, rule_place, done, times, rest = one
    rule = chart.tongue.rules[rule_place]
    if times is None:
        times = times_from(rule, {})
    if rest is None:
        rest = rest_from(rule, {})
    number = rule.base * times + rest
    if rule_for(chart.tongue, number) == rule_place and has_few_words(chart, rule, number):
        return number
    return None


def has_few_words(chart, rule, number):
    """Whether a number, whose parts are found, has not too many words for a row."""
    if number not in chart.counts:
        parts = parts_of(rule, number)
        chart.counts[number] = count_words(rule) + sum([chart.counts[parts[sign]] for sign in parts])
    return chart.counts[number] <= MOST_WORDS


def past_part(chart, waiting_rule, states, number):
    """Those of the begun rules that wait for a part, of which a number can be this part, with it done."""
    rule_place, done = waiting_rule
    rule = chart.tongue.rules[rule_place]
    sign = chart.pieces[rule_place][done]
    if sign in REST_SIGNS:
        told = rest_told(rule, sign, number)
        fitting = [state for state in states if told is not None and state[2] in (None, told)]
        return [(start, rule_place, done + 1, times, told) for start, times, rest in fitting]
    told = times_told(rule, sign, number)
    fitting = [state for state in states if told is not None and state[1] in (None, told)]
    return [(start, rule_place, done + 1, told, rest) for start, times, rest in fitting]


def times_told(rule, sign, number):
    """How often base goes into the numbers of a rule that have this part, or None where there are none."""
    if sign in ("W", "U") and number % rule.base != 0:
        return None
    times = times_from(rule, {sign: number})
    return times if rule.low // rule.base <= times <= rule.high // rule.base else None


def rest_told(rule, sign, number):
    """The rest by base of the numbers of a rule that have this part, or None where there are none."""
    rest = rest_from(rule, {sign: number})
    return rest if rule.first <= rest <= rule.last else None
