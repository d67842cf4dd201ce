"""Rows said freely: by any rules that cover a number and its parts, not just the first ones."""

from numbersay.rows import words_in
from numbersay.rules import count_words, covers, parts_of


def free_rows(tongue, number, most):
    """The rising list of the rows of at most most words by which a number can be said freely."""
    return [list(row) for row in FreeSayer(tongue).rows_within(number, most)]


class FreeSayer:
    """What is known so far of the rows of a tongue's numbers, so that nothing is looked for twice.

    How many words a number needs is found first. So only such rows of parts are put together as stand in a row
    that is told, and they are never more than those."""

    def __init__(self, tongue):
        self.tongue = tongue
        self.known_fewest = {}
        self.known_rows = {}

    def rules_over(self, number):
        """The rules by which a number can be said."""
        if not 0 <= number <= self.tongue.bound:
            return []
        return [rule for rule in self.tongue.rules if covers(rule, number)]

    def fewest(self, number, most):
        """The number of words of a number's shortest row, or None where it has more than most."""
        key = (number, most)
        if key not in self.known_fewest:
            counts = [self.fewest_by(rule, number, most) for rule in self.rules_over(number)]
            self.known_fewest[key] = min([count for count in counts if count is not None], default=None)
        return self.known_fewest[key]

    def fewest_by(self, rule, number, most):
        """The same, where this rule is taken for the number."""
        parts = self.fewest_in_parts(rule, number, most)
        return None if parts is None else count_words(rule) + sum(parts.values())

    def fewest_in_parts(self, rule, number, most):
        """How many words each part needs at least, by its sign, or None where they do not fit into most words."""
        needed = {}
        parts = parts_of(rule, number)
        # Each part needs a word: this many may be had beyond that.
        spare = most - count_words(rule) - len(parts)
        if spare < 0:
            return None
        for sign, part in parts.items():
            count = self.fewest(part, spare + 1)
            if count is None:
                return None
            needed[sign] = count
            spare -= count - 1
        return needed

    def rows_within(self, number, most):
        """The rising list of a number's rows of at most most words, as tuples."""
        key = (number, most)
        if key not in self.known_rows:
            rules = self.rules_over(number)
            self.known_rows[key] = sorted({row for rule in rules for row in self.rows_by(rule, number, most)})
        return self.known_rows[key]

    def rows_by(self, rule, number, most):
        """Such rows, each once, where this rule is taken for the number."""
        needed = self.fewest_in_parts(rule, number, most)
        if needed is None:
            return []
        spare = most - count_words(rule) - sum(needed.values())
        parts = parts_of(rule, number)
        begun = {(): spare}
        for piece in rule.pieces:
            if piece in parts:
                rows = self.rows_within(parts[piece], needed[piece] + spare)
                begun = gone_on(begun, rows, needed[piece])
            else:
                begun = {row + (piece,): begun[row] for row in begun}
        return list(begun)


def gone_on(begun, rows, least):
    """Rows that were begun, each with one of rows behind it; to each belongs how many words it has to spare.

    In what there is to spare, least words of each of rows are counted already."""
    longer = {}
    for ahead, spare in begun.items():
        for row in rows:
            left = spare + least - len(words_in(row))
            if left >= 0:
                longer[ahead + row] = left
    return longer
