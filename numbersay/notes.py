"""Tongues as texts, and questions answered by such a text."""

from numbersay.errors import BadKind, BadRule, BadText
from numbersay.kinds import Kind
from numbersay.rules import Rule
from numbersay.sounds import name_of
from numbersay.texts import numbers_in
from numbersay.tongues import Tongue, is_melt

MOST_FIGURES = 60
NO_ANSWER = "-"
# Rows of a lesser step do not stand behind rows of a greater one.
STEPS = {"bound": 0, "rule": 1, "word": 1, "melt": 2, "kind": 3, "turn": 3}


def tongue_text(tongue):
    """The text in which a tongue is written."""
    rows = [f"bound {tongue.bound}"]
    rows.extend([rule_text(rule) for rule in tongue.rules])
    rows.extend([f"melt {ahead} {behind} {made}" for ahead, behind, made in tongue.melts])
    for kind in tongue.kinds:
        rows.append(f"kind {kind.title} {kind.ending}")
        rows.extend([f"turn {first} {second}" for first, second in kind.turns])
    return "\n".join(rows) + "\n"


def rule_text(rule):
    """The row of words in which a rule is written."""
    pieces = " ".join(rule.pieces)
    if is_word_rule(rule):
        return f"word {rule.low} {pieces}"
    return f"rule {rule.low} {rule.high} {rule.base} {rule.first} {rule.last} : {pieces}"


def is_word_rule(rule):
    """Whether a rule is one that is written as a word: such as word_rule makes."""
    if len(rule.pieces) != 1 or rule.low != rule.high or rule.base != 2:
        return False
    # Of one word alone, first and last are alike, or the rule would have been refused.
    return rule.first == rule.low % 2


def word_rule(number, word):
    """The rule by which one number is one word."""
    return Rule(number, number, 2, number % 2, number % 2, [word])


def is_figures(text):
    """Whether a text is a number, written by its figures."""
    if not 1 <= len(text) <= MOST_FIGURES or not all("0" <= sign <= "9" for sign in text):
        return False
    return text == "0" or text[0] != "0"


class Draft:
    """What has been read of a tongue so far; step is that of the last row, and bound None where there was none."""

    def __init__(self):
        self.bound = None
        self.rules = []
        self.melts = []
        self.kinds = []
        self.step = 0


def take_bound(draft, words):
    """Take a row of bound into a draft; told is whether it is one."""
    if len(words) != 2 or not is_figures(words[1]):
        return False
    draft.bound = int(words[1])
    return True


def take_rule(draft, words):
    """The same for a rule; one that is refused is left to the caller."""
    figures = words[1:6]
    if len(words) < 7 or words[6] != ":" or not all(is_figures(text) for text in figures):
        return False
    low, high, base, first, last = [int(text) for text in figures]
    draft.rules.append(Rule(low, high, base, first, last, words[7:]))
    return True


def take_word(draft, words):
    """The same for a rule of one word alone."""
    if len(words) != 3 or not is_figures(words[1]):
        return False
    draft.rules.append(word_rule(int(words[1]), words[2]))
    return True


def take_melt(draft, words):
    """The same for a melt."""
    melt = tuple(words[1:])
    if not is_melt(melt):
        return False
    draft.melts.append(melt)
    return True


def take_kind(draft, words):
    """The same for a kind, as yet without turns; one that is refused is left to the caller."""
    if len(words) != 3 or any(kind.title == words[1] for kind in draft.kinds):
        return False
    draft.kinds.append(Kind(words[1], words[2], []))
    return True


def take_turn(draft, words):
    """The same for a turn of the last kind, which is made anew, so that it is refused at this row."""
    if len(words) != 3 or not draft.kinds:
        return False
    kind = draft.kinds.pop()
    draft.kinds.append(Kind(kind.title, kind.ending, kind.turns + [(words[1], words[2])]))
    return True


TAKERS = {
    "bound": take_bound,
    "rule": take_rule,
    "word": take_word,
    "melt": take_melt,
    "kind": take_kind,
    "turn": take_turn,
}


def read_tongue(text):
    """The tongue that is written in a text."""
    rows = text.split("\n")
    draft = Draft()
    for place, row in enumerate(rows):
        words = [word for word in row.split(" ") if word != ""]
        if words and not is_taken(draft, words):
            raise BadText(place)
    if draft.bound is None:
        raise BadText(len(rows))
    return Tongue(draft.bound, draft.rules, draft.melts, draft.kinds)


def is_taken(draft, words):
    """Take a row into a draft; told is whether it is one, stands where it may and nothing in it is refused."""
    if not may_stand(draft, words[0]):
        return False
    take = TAKERS[words[0]]
    draft.step = STEPS[words[0]]
    try:
        return take(draft, words)
    except (BadRule, BadKind):
        return False


def may_stand(draft, word):
    """Whether a row that begins with this word may stand behind what has been read."""
    if word not in STEPS:
        return False
    # Bound stands first, and once.
    if word == "bound" or draft.bound is None:
        return word == "bound" and draft.bound is None
    return STEPS[word] >= draft.step


def answers(text, asked):
    """The answers, each a text, to a list of texts: names of numbers, and numbers that bear a name."""
    tongue = read_tongue(text)
    return [answer(tongue, one) for one in asked]


def answer(tongue, one):
    """The answer to one text."""
    if is_figures(one):
        name = name_of(tongue, int(one))
        return NO_ANSWER if name is None else name
    numbers = numbers_in(tongue, one)
    return " ".join([str(number) for number in numbers]) if numbers else NO_ANSWER
