"""Points 8.1 to 8.4: tongues turned."""

import random
import unittest

from numbersay.errors import BadPairs, SayError
from numbersay.kinds import Kind
from numbersay.rows import row_of
from numbersay.rules import Rule
from numbersay.sounds import name_of
from numbersay.tongues import Tongue, words_of
from numbersay.turning import agree, mirrored, put_over, reworded
from tests.samples import HUGE, english, german, latin, living, slow_names, slow_row, sounding_tongue
from tests.samples import telling_numbers, with_kinds, word

# What is refused by reworded and by agree alike.
BAD_PAIRS = [
    [("", "aa")], [("a", "aa")], [("abcdefghijk", "aa")], [("One", "aa")], [("+", "aa")], [("Q", "aa")],
    [("o e", "aa")], [("o1", "aa")], [("one", "")], [("one", "a")], [("one", "abcdefghijk")], [("one", "Aa")],
    [("one", "+")], [("one", "R")], [("one", "a a")], [("one", "aa "), ("two", "bb")], [("two", "bb"), ("one", "a1")],
    [("zz", "aa"), ("a", "bb")], [("one", "aa"), ("one", "bb")], [("one", "aa"), ("one", "aa")],
    [("zz", "aa"), ("zz", "bb")], [("one", "aa"), ("two", "bb"), ("one", "cc")], [("one", "one"), ("one", "aa")],
]


def fields(tongue):
    """All that a tongue tells, without its kinds."""
    rules = [(rule.low, rule.high, rule.base, rule.first, rule.last, list(rule.pieces)) for rule in tongue.rules]
    return tongue.bound, rules, list(tongue.melts)


def put(row, pairs):
    """A row, or None, with its words replaced."""
    return None if row is None else [dict(pairs).get(text, text) for text in row]


def small():
    rules = [word(1, "one"), word(2, "two"), word(3, "tri"), Rule(10, 99, 10, 1, 9, ["Q", "+", "ty", "R", "one"])]
    return Tongue(99, rules, [("o", "t", "ot")], [Kind("which", "th", [("one", "first")])])


class PairsRefusedTest(unittest.TestCase):

    def refused(self, ask, *told):
        with self.assertRaises(BadPairs) as caught:
            ask(*told)
        self.assertIs(type(caught.exception), BadPairs)
        self.assertIsInstance(caught.exception, SayError)
        self.assertIsInstance(caught.exception, ValueError)

    def test_by_both(self):
        for pairs in BAD_PAIRS:
            with self.subTest(pairs=pairs):
                self.refused(reworded, small(), pairs)
                self.refused(reworded, Tongue(0, []), pairs)
                self.refused(agree, small(), small(), pairs, 9)
                self.refused(agree, small(), small(), pairs, -1)
                self.refused(agree, Tongue(0, []), Tongue(0, []), pairs, 0)

    def test_two_unlike_words_that_become_one(self):
        cases = [
            [("one", "two")], [("one", "aa"), ("two", "aa")], [("tri", "ty")], [("one", "two"), ("two", "tri")],
            [("one", "two"), ("two", "two")], [("zz", "yy"), ("ty", "one")],
        ]
        for pairs in cases:
            with self.subTest(pairs=pairs):
                self.refused(reworded, small(), pairs)
                agree(small(), small(), pairs, 9)

    def test_pairs_that_are_no_pairs(self):
        for pair in [(), ("one",), ("one", "aa", "bb")]:
            with self.subTest(pair=pair):
                self.refused(reworded, small(), [pair])
                self.refused(agree, small(), small(), [pair], 9)


class RewordedTest(unittest.TestCase):

    def test_words_are_exchanged(self):
        told = reworded(small(), [("one", "uno"), ("ty", "zig")])
        self.assertIsInstance(told, Tongue)
        self.assertEqual(fields(told), (99, [
            (1, 1, 2, 1, 1, ["uno"]), (2, 2, 2, 0, 0, ["two"]), (3, 3, 2, 1, 1, ["tri"]),
            (10, 99, 10, 1, 9, ["Q", "+", "zig", "R", "uno"]),
        ], []))
        self.assertEqual(row_of(told, 12), ["uno", "+", "zig", "two", "uno"])

    def test_melts_and_kinds_are_left_out(self):
        for pairs in [[], [("one", "uno")]]:
            told = reworded(small(), pairs)
            self.assertEqual((told.melts, told.kinds), ([], []))
        self.assertEqual(name_of(small(), 21), "twoty one one")
        self.assertEqual(name_of(Tongue(99, small().rules, [("wo", "ty", "wenty")]), 21), "twenty one one")
        self.assertEqual(name_of(reworded(Tongue(99, small().rules, [("wo", "ty", "wenty")]), []), 21), "twoty one one")

    def test_no_pairs(self):
        self.assertEqual(fields(reworded(small(), [])), (99, fields(small())[1], []))

    def test_words_put_for_one_another_in_a_ring(self):
        told = reworded(small(), [("one", "two"), ("two", "tri"), ("tri", "one")])
        self.assertEqual([row_of(told, number) for number in [1, 2, 3]], [["two"], ["tri"], ["one"]])
        self.assertEqual(row_of(told, 12), ["two", "+", "ty", "tri", "two"])
        swapped = reworded(small(), [("one", "two"), ("two", "one")])
        self.assertEqual(row_of(swapped, 12), ["two", "+", "ty", "one", "two"])

    def test_a_word_put_for_itself(self):
        self.assertEqual(fields(reworded(small(), [("one", "one")]))[1], fields(small())[1])

    def test_a_word_that_gives_up_its_place(self):
        told = reworded(small(), [("one", "two"), ("two", "duo")])
        self.assertEqual([row_of(told, number) for number in [1, 2, 3]], [["two"], ["duo"], ["tri"]])

    def test_first_words_that_the_tongue_has_not(self):
        self.assertEqual(fields(reworded(small(), [("zz", "one")]))[1], fields(small())[1])
        self.assertEqual(fields(reworded(small(), [("zz", "aa"), ("yy", "aa")]))[1], fields(small())[1])
        # Words of melts and kinds are not the tongue's.
        self.assertEqual(fields(reworded(small(), [("first", "one"), ("th", "two")]))[1], fields(small())[1])

    def test_rows_against_those_of_the_old_one(self):
        for seed in range(60):
            tongue, dice = sounding_tongue(seed), random.Random(seed)
            words = words_of(tongue)
            others = dice.sample(words + ["xx", "yyy", "zz", "ww"], len(words))
            pairs = list(zip(words, others)) + [("none", "naught")]
            told = reworded(tongue, pairs)
            for number in range(-1, tongue.bound + 2):
                with self.subTest(seed=seed, number=number):
                    self.assertEqual(row_of(told, number), put(slow_row(tongue, number), pairs))
            self.assertEqual(told.bound, tongue.bound)

    def test_great_numbers(self):
        pairs = [("one", "uno"), ("two", "three"), ("three", "two"), ("hundred", "cento")]
        told = reworded(english(), pairs)
        for number in telling_numbers(HUGE):
            self.assertEqual(row_of(told, number), put(row_of(english(), number), pairs))

    def test_what_is_handed_in_stays_and_may_be_changed_afterwards(self):
        tongue, pairs = small(), [("one", "uno")]
        before, kinds = fields(tongue), list(tongue.kinds)
        told = reworded(tongue, pairs)
        self.assertEqual((fields(tongue), tongue.kinds, pairs), (before, kinds, [("one", "uno")]))
        pairs.clear()
        self.assertEqual(row_of(told, 1), ["uno"])
        told.rules[0].pieces.append("more")
        told.rules.pop()
        told.melts.append(("a", "b", "c"))
        self.assertEqual(fields(tongue), before)


class MirroredTest(unittest.TestCase):

    def test_pieces_in_the_other_order(self):
        told = mirrored(small())
        self.assertIsInstance(told, Tongue)
        self.assertEqual(fields(told), (99, [
            (1, 1, 2, 1, 1, ["one"]), (2, 2, 2, 0, 0, ["two"]), (3, 3, 2, 1, 1, ["tri"]),
            (10, 99, 10, 1, 9, ["one", "R", "ty", "+", "Q"]),
        ], []))
        self.assertEqual(told.kinds, [])
        self.assertEqual(row_of(told, 12), ["one", "two", "ty", "+", "one"])

    def test_no_rules(self):
        self.assertEqual(fields(mirrored(Tongue(7, []))), (7, [], []))

    def test_mirrored_twice(self):
        for tongue in living() + [sounding_tongue(seed) for seed in range(20)]:
            twice = mirrored(mirrored(tongue))
            self.assertEqual(fields(twice)[:2], fields(tongue)[:2])
            self.assertEqual((twice.melts, twice.kinds), ([], []))

    def test_rows_from_the_end_to_the_begin(self):
        for seed in range(60):
            tongue = sounding_tongue(seed)
            told = mirrored(tongue)
            for number in range(-1, tongue.bound + 2):
                row = slow_row(tongue, number)
                with self.subTest(seed=seed, number=number):
                    self.assertEqual(row_of(told, number), None if row is None else row[::-1])
        for tongue in living():
            for number in telling_numbers(HUGE):
                row = row_of(tongue, number)
                self.assertEqual(row_of(mirrored(tongue), number), None if row is None else row[::-1])

    def test_what_is_handed_in_stays(self):
        tongue = small()
        before, kinds = fields(tongue), list(tongue.kinds)
        told = mirrored(tongue)
        self.assertEqual((fields(tongue), tongue.kinds), (before, kinds))
        told.rules[0].pieces.append("more")
        told.rules.clear()
        self.assertEqual(fields(tongue), before)


class PutOverTest(unittest.TestCase):

    def test_living(self):
        self.assertEqual(put_over(english(), german(), "twentyone"), ["einundzwanzig"])
        self.assertEqual(put_over(german(), latin(), "achtzehn"), ["duo de viginti"])
        self.assertEqual(put_over(latin(), english(), "duo de viginti"), ["eighteen"])
        self.assertEqual(put_over(english(), english(), "two hundred"), ["two hundred"])

    def test_a_name_of_no_number(self):
        for name in ["", " ", "twenty one", "none", "Twenty", "20"]:
            self.assertEqual(put_over(english(), german(), name), [])

    def test_in_the_order_of_the_numbers(self):
        one = Tongue(9, [word(number, "aa") for number in [7, 3, 5, 8]])
        other = Tongue(9, [word(3, "zz"), word(7, "bb"), word(5, "yy"), word(8, "zz")])
        self.assertEqual(put_over(one, other, "aa"), ["zz", "yy", "bb", "zz"])

    def test_numbers_that_have_no_name_in_the_other(self):
        one = Tongue(9, [word(number, "aa") for number in [7, 3, 5, 8]])
        self.assertEqual(put_over(one, Tongue(9, [word(3, "zz"), word(8, "yy")]), "aa"), ["zz", "yy"])
        self.assertEqual(put_over(one, Tongue(5, [word(5, "zz"), word(8, "yy")]), "aa"), ["zz"])
        self.assertEqual(put_over(one, Tongue(9, []), "aa"), [])

    def test_against_the_words_of_the_point(self):
        several = 0
        for seed in range(40):
            one, other = sounding_tongue(seed), sounding_tongue(seed + 1000)
            names, others = slow_names(one), slow_names(other)
            for text in sorted(set(names.values()) | set(others.values())):
                told = [others[number] for number in names if names[number] == text and number in others]
                with self.subTest(seed=seed, text=text):
                    self.assertEqual(put_over(one, other, text), told)
                several += len(told) > 1
        self.assertGreater(several, 20)

    def test_the_list_told_is_the_askers_own(self):
        one, other = english(), german()
        put_over(one, other, "one").clear()
        self.assertEqual(put_over(one, other, "one"), ["ein"])


class AgreeTest(unittest.TestCase):

    def test_a_tongue_and_itself(self):
        for tongue in living():
            self.assertIsNone(agree(tongue, tongue, [], 300))

    def test_both_have_a_row(self):
        one = Tongue(9, [word(0, "nil"), word(1, "one"), word(2, "two")])
        other = Tongue(9, [word(0, "nil"), word(1, "uno"), word(2, "two")])
        self.assertEqual(agree(one, other, [], 9), 1)
        self.assertIsNone(agree(one, other, [("one", "uno")], 9))
        self.assertEqual(agree(other, one, [("one", "uno")], 9), 1)
        self.assertIsNone(agree(other, one, [("uno", "one")], 9))
        self.assertEqual(agree(one, other, [("nil", "one"), ("one", "uno")], 9), 0)

    def test_one_has_a_row(self):
        one = Tongue(9, [word(0, "nil"), word(1, "one"), word(2, "two")])
        other = Tongue(9, [word(0, "nil"), word(2, "two")])
        self.assertEqual(agree(one, other, [], 9), 1)
        self.assertEqual(agree(other, one, [], 9), 1)
        self.assertEqual(agree(one, Tongue(1, one.rules), [], 9), 2)
        self.assertEqual(agree(Tongue(0, one.rules), one, [], 9), 1)

    def test_neither_has_a_row(self):
        self.assertIsNone(agree(Tongue(0, []), Tongue(9, []), [], 300))
        one = Tongue(9, [word(0, "nil"), word(4, "four")])
        self.assertIsNone(agree(one, Tongue(300, one.rules), [], 300))

    def test_above_the_bounds(self):
        one = Tongue(3, [word(5, "five")])
        other = Tongue(7, [word(5, "five")])
        self.assertEqual(agree(one, other, [], 9), 5)
        self.assertEqual(agree(other, one, [], 300), 5)
        self.assertIsNone(agree(one, other, [], 4))
        self.assertIsNone(agree(one, Tongue(4, other.rules), [], 9))

    def test_most(self):
        one, other = Tongue(300, [word(0, "aa")]), Tongue(300, [word(300, "aa")])
        for most in [-1, -2, -HUGE]:
            self.assertIsNone(agree(one, other, [], most))
        self.assertEqual(agree(one, other, [], 0), 0)
        both = Tongue(300, [word(0, "aa"), word(300, "aa")])
        self.assertIsNone(agree(one, both, [], 299))
        self.assertEqual(agree(one, both, [], 300), 300)

    def test_rows_with_their_ties_not_names(self):
        one = Tongue(9, [Rule(1, 1, 2, 1, 1, ["aa", "+", "bb"])])
        self.assertEqual(agree(one, Tongue(9, [Rule(1, 1, 2, 1, 1, ["aa", "bb"])]), [], 9), 1)
        self.assertEqual(agree(one, Tongue(9, [word(1, "aabb")]), [], 9), 1)
        self.assertIsNone(agree(one, Tongue(9, one.rules, [("a", "b", "x")]), [], 9))
        self.assertIsNone(agree(with_kinds(one, Kind("which", "th", [])), one, [], 9))

    def test_words_that_become_one(self):
        one = Tongue(9, [word(0, "aa"), word(1, "bb")])
        other = Tongue(9, [word(0, "cc"), word(1, "cc")])
        self.assertIsNone(agree(one, other, [("aa", "cc"), ("bb", "cc")], 9))
        self.assertIsNone(agree(one, Tongue(9, [word(0, "aa"), word(1, "aa")]), [("bb", "aa")], 9))

    def test_a_ring(self):
        one = Tongue(9, [word(0, "aa"), word(1, "bb"), word(2, "cc")])
        other = Tongue(9, [word(0, "bb"), word(1, "cc"), word(2, "aa")])
        self.assertIsNone(agree(one, other, [("aa", "bb"), ("bb", "cc"), ("cc", "aa")], 9))

    def test_first_words_that_the_tongue_has_not(self):
        self.assertIsNone(agree(small(), small(), [("zz", "one"), ("yy", "one")], 99))

    def test_with_reworded(self):
        for tongue in living():
            words = words_of(tongue)
            pairs = list(zip(words, words[1:] + words[:1]))
            self.assertIsNone(agree(tongue, reworded(tongue, pairs), pairs, 300))
            self.assertEqual(agree(tongue, reworded(tongue, pairs), [], 300), 0)

    def test_against_the_words_of_the_point(self):
        least = set()
        for seed in range(120):
            dice = random.Random(seed)
            one = sounding_tongue(seed)
            words = words_of(one)
            pairs = [(text, dice.choice(words + ["zz"])) for text in words if dice.random() < 0.5]
            rules = [
                Rule(rule.low, rule.high, rule.base, rule.first, rule.last, put(rule.pieces, pairs))
                for rule in one.rules
            ]
            if dice.random() < 0.7:
                rules.insert(dice.randrange(len(rules) + 1), word(dice.randrange(one.bound + 3), "zz"))
            other = Tongue(max(0, one.bound + dice.choice([0, 0, 1, -1])), rules)
            for most in [-1, 0, 5, 30, 100]:
                unlike = [n for n in range(most + 1) if put(slow_row(one, n), pairs) != slow_row(other, n)]
                with self.subTest(seed=seed, most=most):
                    self.assertEqual(agree(one, other, pairs, most), unlike[0] if unlike else None)
                    least.add(unlike[0] if unlike else None)
        self.assertGreater(len(least), 10)

    def test_what_is_handed_in_stays(self):
        one, other, pairs = small(), small(), [("one", "uno")]
        before = fields(one)
        self.assertEqual(agree(one, other, pairs, 99), 1)
        self.assertEqual((fields(one), fields(other), pairs), (before, before, [("one", "uno")]))


if __name__ == "__main__":
    unittest.main()
