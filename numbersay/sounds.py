"""Sounds: the texts of rows, in which sounds melt where words are tied."""

from numbersay.errors import BadRow
from numbersay.rows import is_row, row_of
from numbersay.rules import TIE, is_word

# No melt takes more letters than these from the end of a text.
MOST_AHEAD = 3


def said(tongue, row):
    """The text of a row."""
    if not is_row(row):
        raise BadRow("this list of texts is no row")
    texts = [row[0]]
    for ahead, text in zip(row, row[1:]):
        if ahead == TIE:
            texts.append(tied(tongue, texts.pop(), text))
        elif text != TIE:
            texts.append(text)
    return " ".join(texts)


def tied(tongue, text, word):
    """A text without blanks and a word that is tied to it."""
    for ahead, behind, made in tongue.melts:
        if text.endswith(ahead) and word.startswith(behind):
            return text[:-len(ahead)] + made + word[len(behind):]
    return text + word


def name_of(tongue, number):
    """The text of a number's row, or None."""
    row = row_of(tongue, number)
    return None if row is None else said(tongue, row)


def tied_in(tongue, words, text):
    """The rising list of the lists of these words that, tied one to the next, are said so."""
    # Only words are sure to make the text longer, so that there is an end.
    steps = tie_steps(tongue, sorted({word for word in words if is_word(word)}), text)
    goal = (len(text), text[-MOST_AHEAD:])
    useful = leading_to(steps, goal)
    lists = []
    begun = [([], (0, ""))]
    while begun:
        longer = []
        for ahead, state in begun:
            for word, behind in steps[state]:
                if behind == goal:
                    lists.append(ahead + [word])
                elif behind in useful:
                    longer.append((ahead + [word], behind))
        begun = longer
    return sorted(lists)


def tie_steps(tongue, words, text):
    """The words that may be tied on in each state on the way to a text, each with the state behind it.

    A state is how many letters there are and the last of them, which may melt yet; those ahead of them, which may
    not, are the text's own."""
    steps = {}
    waiting = [(0, "")]
    while waiting:
        state = waiting.pop()
        if state not in steps:
            steps[state] = states_behind(tongue, words, text, state)
            waiting.extend([behind for word, behind in steps[state]])
    return steps


def states_behind(tongue, words, text, state):
    """Each of the words that may be tied on in a state, with the state behind it."""
    pairs = [(word, state_behind(tongue, text, state, word)) for word in words]
    return [(word, behind) for word, behind in pairs if behind is not None]


def state_behind(tongue, text, state, word):
    """The state behind a word that is tied on in a state, or None where it does not lead to the text."""
    length, end = state
    return state_with(tongue, text, length - len(end), tied(tongue, end, word))


def state_with(tongue, text, begin, letters):
    """The state where these letters stand from begin on, or None where it does not lead to the text."""
    state = (begin + len(letters), letters[-MOST_AHEAD:])
    firm = letters[:-MOST_AHEAD]
    if state[0] > len(text) or text[begin:begin + len(firm)] != firm:
        return None
    return state if fits(text, state) or can_melt(tongue, text, state) else None


def fits(text, state):
    """Whether the letters that may melt yet in a state are the text's own as they are."""
    length, end = state
    return text[length - len(end):length] == end


def can_melt(tongue, text, state):
    """Whether a melt may yet take away the first letter in a state that is not the text's own."""
    length, end = state
    begin = length - len(end)
    wrong = 0
    while end[wrong] == text[begin + wrong]:
        wrong += 1
    left = len(end) - wrong
    for ahead, behind, made in tongue.melts:
        if len(ahead) >= left and end.endswith(ahead):
            return True
        # At a later tie more letters stand behind it.
        if end[wrong] in ahead[:-left]:
            return True
    return False


def leading_to(steps, goal):
    """A dict with the states from which goal can be reached, and goal."""
    useful = {goal: True}
    # A step makes the text longer, so the states behind it have been seen to by then.
    for state in sorted(steps, reverse=True):
        if any(behind in useful for word, behind in steps[state]):
            useful[state] = True
    return useful
