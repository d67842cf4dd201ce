"""Pairs of words, by which words are exchanged."""

from numbersay.rules import is_word


def are_word_pairs(pairs):
    """Whether these all are pairs of words, no two with the same first one."""
    if not all(is_word_pair(pair) for pair in pairs):
        return False
    return len({pair[0] for pair in pairs}) == len(pairs)


def is_word_pair(pair):
    """Whether this is a pair of words."""
    return isinstance(pair, tuple) and len(pair) == 2 and is_word(pair[0]) and is_word(pair[1])


def exchanged(texts, pairs):
    """The list of texts in which each first word of a pair is replaced by the second one."""
    seconds = dict(pairs)
    return [seconds.get(text, text) for text in texts]
