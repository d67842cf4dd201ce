"""Ways through a text: all words and ties of which it can be put together."""

from numbersay.charts import chart_along, numbers_to_end
from numbersay.rules import TIE
from numbersay.sounds import fits, leading_to, state_behind, state_with, tied

# Where a way begins. A stop is how many signs there are, whether a tie is the last, and the letters that may melt.
BEGIN = (0, False, "")
# No word makes a text longer than by its own ten letters and four that a melt puts to them.
MOST_LONGER = 14


class Reading:
    """What is read: a text in a tongue.

    gap is what stands between words that no tie joins. endings has, for each word of which the text may be put
    together, the list of words that are said, tied one to the next, where it is the last one."""

    def __init__(self, tongue, text, gap, endings):
        self.tongue = tongue
        self.text = text
        self.gap = gap
        self.endings = endings
        # Behind all other stops.
        self.goal = (len(text) + 1, False, "")
        self.known_letters = {}


def numbers_through(reading):
    """The rising list of the numbers that are read."""
    return numbers_to_end(chart_through(reading, ways_through(reading), [0]))


def chart_through(reading, ways, starts):
    """The chart of the ways through what is read, with the numbers that lead on from these places."""
    return chart_along(reading.tongue, [rule.pieces for rule in reading.tongue.rules], ways, starts)


def ways_through(reading):
    """For each place on the way to the end a list of pairs of a word or tie and the place behind it.

    The first place is the begin and the last one the end; each but the first is sure to lead to the end."""
    steps = all_steps(reading)
    useful = leading_to(steps, reading.goal)
    useful[BEGIN] = True
    places = {stop: place for place, stop in enumerate(sorted(useful))}
    return [[(text, places[behind]) for text, behind in steps.get(stop, []) if behind in places] for stop in places]


def all_steps(reading):
    """A dict from each stop that can be reached to the words and ties behind it, each with the stop it leads to."""
    steps = {}
    waiting = [BEGIN]
    while waiting:
        stop = waiting.pop()
        if stop not in steps:
            steps[stop] = steps_from(reading, stop)
            waiting.extend([behind for text, behind in steps[stop]])
    return steps


def steps_from(reading, stop):
    """The words and ties that may stand behind a stop, each with the stop that it leads to."""
    length, is_tied, end = stop
    if stop == reading.goal:
        return []
    if stop == BEGIN or is_tied:
        return word_steps(reading, (length, end))
    steps = [(TIE, (length, True, end))]
    begin = length + len(reading.gap)
    if fits(reading.text, (length, end)) and reading.text[length:begin] == reading.gap:
        steps.extend(word_steps(reading, (begin, "")))
    return steps


def word_steps(reading, state):
    """The words that may be tied on in a state, each with the stop that it leads to."""
    length, end = state
    steps = []
    for word, letters in letters_behind(reading, end).items():
        behind = state_with(reading.tongue, reading.text, length - len(end), letters)
        if behind is not None:
            steps.append((word, (behind[0], False, behind[1])))
        if ends_text(reading, state, reading.endings[word]):
            steps.append((word, reading.goal))
    return steps


def letters_behind(reading, end):
    """A dict from each word to what the letters that may melt and this word become where it is tied on."""
    if end not in reading.known_letters:
        reading.known_letters[end] = {word: tied(reading.tongue, end, word) for word in reading.endings}
    return reading.known_letters[end]


def ends_text(reading, state, words):
    """Whether words, tied on in a state one behind another, lead just to the end of the text."""
    if state[0] + MOST_LONGER * len(words) < len(reading.text):
        return False
    for word in words:
        state = state_behind(reading.tongue, reading.text, state, word)
        if state is None:
            return False
    return state[0] == len(reading.text) and fits(reading.text, state)
