"""Points 4.1 to 4.3: rows read."""

import itertools
import random
import unittest

from numbersay.errors import BadRow, SayError
from numbersay.hearing import heard, readings
from numbersay.rows import row_of, words_in
from numbersay.rules import Rule
from numbersay.tongues import Tongue
from tests.samples import HUGE, chance_tongue, english, german, latin, living, slow_row, telling_numbers, word

# The powers of ten that have a word in english() and a number of tens ahead of them.
SCALES = [3, 6, 9, 12, 18, 36]
FORTY_AND_MORE = list(range(41, 50)) + [40 * 10 ** power for power in SCALES]
PARTS_OF_43 = {"Q": 4, "N": 5, "W": 40, "U": 50, "R": 3, "K": 7}


def rows_of_all(tongue):
    """The rows of a tongue's numbers, the slow way."""
    rows = {number: slow_row(tongue, number) for number in range(tongue.bound + 1)}
    return {number: row for number, row in rows.items() if row is not None}


def slow_heard(rows, words):
    return [
        number for number, row in rows.items()
        if len(words_in(row)) == len(words)
        and all(text in (None, said) for text, said in zip(words, words_in(row)))
    ]


def tens(tie=()):
    """1 is "one", and a nought behind a number is one more "ten"."""
    return Tongue(HUGE, [word(1, "one"), Rule(1, HUGE, 10, 0, 0, ["Q", *tie, "ten"])])


class HeardTest(unittest.TestCase):

    def test_a_word_alone(self):
        tongue = Tongue(9, [word(0, "nil"), word(3, "tri"), word(9, "nona")])
        self.assertEqual(heard(tongue, ["nil"]), [0])
        self.assertEqual(heard(tongue, ["tri"]), [3])
        self.assertEqual(heard(tongue, ["nona"]), [9])
        self.assertEqual(heard(tongue, ["tri", "tri"]), [])

    def test_each_sign(self):
        names = [word(number, "w" + sign.lower()) for sign, number in PARTS_OF_43.items()]
        for sign in PARTS_OF_43:
            for pieces in [["aa", sign], [sign, "aa"], ["aa", sign, "bb"]]:
                tongue = Tongue(99, names + [Rule(43, 43, 10, 3, 3, pieces)])
                words = ["w" + sign.lower() if piece == sign else piece for piece in pieces]
                with self.subTest(pieces=pieces):
                    self.assertEqual(heard(tongue, words), [43])

    def test_all_signs_in_any_order(self):
        names = [word(number, "w" + sign.lower()) for sign, number in PARTS_OF_43.items()]
        for signs in itertools.permutations("QNWURK"):
            tongue = Tongue(99, names + [Rule(0, 99, 10, 3, 5, ["aa", *signs])])
            self.assertEqual(heard(tongue, ["aa"] + ["w" + sign.lower() for sign in signs]), [43])

    def test_parts_that_contradict_one_another(self):
        names = [word(2, "two"), word(3, "tri"), word(20, "score"), word(30, "many"), word(21, "odd"), word(31, "even")]
        cases = [
            (["Q", "and", "N"], ["two", "and", "tri"], [["two", "and", "two"], ["tri", "and", "two"]]),
            (["Q", "and", "W"], ["two", "and", "score"], [["two", "and", "many"], ["two", "and", "odd"]]),
            (["N", "and", "W"], ["tri", "and", "score"], [["two", "and", "score"], ["tri", "and", "odd"]]),
            (["W", "and", "U"], ["score", "and", "many"], [["odd", "and", "many"], ["score", "and", "even"]]),
            (["U", "and", "Q"], ["many", "and", "two"], [["even", "and", "two"], ["many", "and", "tri"]]),
        ]
        for pieces, right, wrong in cases:
            tongue = Tongue(99, names + [Rule(25, 25, 10, 5, 5, pieces)])
            with self.subTest(pieces=pieces):
                self.assertEqual(heard(tongue, right), [25])
                self.assertEqual(readings(tongue, right), [25])
                for words in wrong:
                    self.assertEqual(heard(tongue, words), [])

    def test_parts_beyond_what_the_rule_covers(self):
        names = [word(number, "w" + letter) for number, letter in enumerate("abcdefghij")]
        tongue = Tongue(99, names + [Rule(35, 62, 10, 2, 7, ["Q", "and", "R"])])
        for times, rest in itertools.product(range(10), repeat=2):
            number = 10 * times + rest
            words = ["w" + "abcdefghij"[times], "and", "w" + "abcdefghij"[rest]]
            with self.subTest(number=number):
                self.assertEqual(heard(tongue, words), [number] if 35 <= number <= 62 and 2 <= rest <= 7 else [])

    def test_rest_and_what_lacks(self):
        names = [word(number, "w" + letter) for number, letter in enumerate("abcdefghij")]
        tongue = Tongue(99, names + [Rule(40, 49, 10, 1, 9, ["R", "of", "K"])])
        self.assertEqual(heard(tongue, ["wd", "of", "wh"]), [43])
        self.assertEqual(heard(tongue, ["wd", "of", "wg"]), [])
        self.assertEqual(heard(tongue, ["wf", "of", "wf"]), [45])
        self.assertEqual(heard(tongue, [None, "of", "wj"]), [41])

    def test_ties_do_not_count(self):
        self.assertEqual(heard(english(), ["four", "ty", "two"]), [42])
        self.assertEqual(heard(german(), ["ein", "und", "zwei", "zig"]), [21])
        rules = [word(1, "one"), Rule(10, 10, 10, 0, 0, ["Q", "ty"]), Rule(11, 11, 10, 1, 1, ["Q", "+", "ty"])]
        self.assertEqual(heard(Tongue(99, rules), ["one", "ty"]), [10, 11])

    def test_several_numbers_rising(self):
        rules = [word(number, "aa") for number in [7, 3, 5]] + [Rule(10, 99, 10, 0, 0, ["Q", "aa"])]
        self.assertEqual(heard(Tongue(99, rules), ["aa"]), [3, 5, 7])
        self.assertEqual(heard(Tongue(99, rules), ["aa", "aa"]), [30, 50, 70])
        self.assertEqual(heard(Tongue(60, rules), ["aa", "aa"]), [30, 50])

    def test_only_the_first_rule_of_a_number(self):
        tongue = Tongue(99, [word(3, "tri"), word(3, "other"), word(4, "other")])
        self.assertEqual(heard(tongue, ["tri"]), [3])
        self.assertEqual(heard(tongue, ["other"]), [4])

    def test_at_bound_and_above_it(self):
        rules = [word(5, "five"), word(6, "six"), Rule(10, 99, 10, 5, 6, ["and", "W", "R"]), word(10, "ten")]
        self.assertEqual(heard(Tongue(5, rules), ["five"]), [5])
        self.assertEqual(heard(Tongue(5, rules), ["six"]), [])
        self.assertEqual(heard(Tongue(15, rules), ["and", "ten", "five"]), [15])
        self.assertEqual(heard(Tongue(14, rules), ["and", "ten", "five"]), [])

    def test_a_part_above_bound(self):
        rules = [word(2, "two"), word(20, "twenty"), Rule(18, 18, 10, 8, 8, ["K", "off", "U"])]
        self.assertEqual(heard(Tongue(20, rules), ["two", "off", "twenty"]), [18])
        self.assertEqual(heard(Tongue(19, rules), ["two", "off", "twenty"]), [])

    def test_nought(self):
        self.assertEqual(heard(Tongue(0, [word(0, "nil")]), ["nil"]), [0])
        self.assertEqual(heard(Tongue(0, [word(0, "nil")]), [None]), [0])

    def test_the_empty_list(self):
        for tongue in living() + [Tongue(9, [])]:
            self.assertEqual(heard(tongue, []), [])

    def test_no_rules(self):
        self.assertEqual(heard(Tongue(9, []), ["aa"]), [])
        self.assertEqual(heard(Tongue(9, []), [None, None]), [])

    def test_words_that_no_number_has(self):
        tongue = english()
        for words in [["none"], ["one", "one"], ["ty"], ["two", "hundred", "and"], ["hundred"], ["zero", "hundred"]]:
            with self.subTest(words=words):
                self.assertEqual(heard(tongue, words), [])

    def test_words_that_are_beginnings_of_one_another(self):
        rules = [word(1, "on"), word(2, "one"), word(3, "oneo"), Rule(10, 99, 10, 1, 9, ["Q", "on", "R"])]
        tongue = Tongue(99, rules)
        self.assertEqual(heard(tongue, ["one"]), [2])
        self.assertEqual(heard(tongue, ["on", "on", "one"]), [12])
        self.assertEqual(heard(tongue, ["oneo", "on", "on"]), [31])
        self.assertEqual(heard(tongue, ["one", "on", None]), [21, 22, 23])

    def test_one_word_not_heard(self):
        self.assertEqual(heard(english(), [None]), list(range(13)))
        self.assertEqual(heard(english(), ["four", "ty", None]), FORTY_AND_MORE)
        self.assertEqual(heard(english(), ["four", None, "two"])[:3], [42, 4002, 4000002])
        self.assertEqual(heard(english(), [None, "teen"]), list(range(13, 20)))
        self.assertEqual(
            heard(english(), ["seven", None]),
            [17, 70, 700] + [7 * 10 ** power for power in SCALES],
        )
        self.assertEqual(heard(latin(), ["duo", None, "viginti"]), [18, 220])

    def test_two_words_not_heard(self):
        forms = [n for n in range(20, 100) if n % 10 != 0]
        forms += [n * 10 ** power for power in SCALES for n in range(20, 100, 10)]
        self.assertEqual(heard(english(), [None, "ty", None]), forms)
        self.assertEqual(heard(english(), [None, None, "and", "two", "ty", "six"]), [
            *[100 * n + 26 for n in range(1, 10)], *[n * 10 ** 36 + 26 for n in range(1, 13)],
        ])
        self.assertEqual(heard(Tongue(9, [word(1, "aa"), word(2, "bb")]), [None, None]), [])

    def test_a_word_not_heard_is_one_word(self):
        self.assertEqual(heard(tens(), [None]), [1])
        self.assertEqual(heard(tens(), [None, None]), [10])
        self.assertEqual(heard(tens(), ["one", None, "ten"]), [100])

    def test_rules_that_do_not_end(self):
        rules = [Rule(0, 9, 10, 3, 5, ["so", "R"]), word(3, "tri"), word(7, "sep"), Rule(8, 8, 10, 8, 8, ["R", "so"])]
        tongue = Tongue(9, rules)
        self.assertEqual(heard(tongue, ["so", "tri"]), [])
        self.assertEqual(heard(tongue, ["tri"]), [])
        self.assertEqual(heard(tongue, [None]), [7])
        self.assertEqual(heard(tongue, [None, None]), [])

    def test_exactly_forty_words_and_forty_one(self):
        self.assertEqual(heard(tens(), ["one"] + ["ten"] * 39), [10 ** 39])
        self.assertEqual(heard(tens(), ["one"] + ["ten"] * 40), [])
        self.assertEqual(heard(tens(["+"]), ["one"] + ["ten"] * 39), [10 ** 39])
        self.assertEqual(heard(tens(["+"]), ["one"] + ["ten"] * 40), [])

    def test_sixty_figures(self):
        self.assertEqual(heard(english(), ["one", "hundred", "thousand", "quint", "myriad"]), [10 ** 59])
        self.assertEqual(heard(english(), [None, "hundred", "thousand", "quint", "myriad"]), [
            n * 10 ** 59 for n in range(1, 10)
        ])

    def test_against_the_words_of_the_point(self):
        told = 0
        for seed in range(100):
            dice = random.Random(seed)
            tongue = chance_tongue(seed, dice.choice([0, 5, 20, 40, 90]))
            rows = rows_of_all(tongue)
            asked = [words_in(row) for row in rows.values()]
            asked += [dice.choices(["aa", "ab", "aba", "ca", "zz"], k=dice.randrange(1, 6)) for _ in range(10)]
            for words in asked:
                for missing in range(3 if len(words) <= 12 else 1):
                    unheard = dice.sample(range(len(words)), min(missing, len(words)))
                    words = [None if place in unheard else text for place, text in enumerate(words)]
                    with self.subTest(seed=seed, words=words):
                        self.assertEqual(heard(tongue, words), slow_heard(rows, words))
                        told += 1
        self.assertGreater(told, 2000)

    def test_the_lists_told_and_handed_in(self):
        tongue = english()
        words = ["four", "ty", None]
        told = heard(tongue, words)
        self.assertEqual(words, ["four", "ty", None])
        told.clear()
        words.append("more")
        self.assertEqual(heard(tongue, ["four", "ty", None]), FORTY_AND_MORE)
        self.assertEqual(row_of(tongue, 42), ["four", "+", "ty", "+", "two"])


class ReadingsTest(unittest.TestCase):

    def test_just_this_row(self):
        self.assertEqual(readings(english(), ["four", "+", "ty", "+", "two"]), [42])
        for row in [["four", "ty", "two"], ["four", "+", "ty", "two"], ["four", "ty", "+", "two"]]:
            with self.subTest(row=row):
                self.assertEqual(readings(english(), row), [])
        self.assertEqual(readings(english(), ["two", "+", "hundred"]), [])
        self.assertEqual(readings(english(), ["two", "hundred"]), [200])

    def test_ties_tell_numbers_apart(self):
        rules = [word(1, "one"), Rule(10, 10, 10, 0, 0, ["Q", "ty"]), Rule(11, 11, 10, 1, 1, ["Q", "+", "ty"])]
        tongue = Tongue(99, rules + [Rule(12, 12, 11, 1, 1, ["R", "+", "ty"])])
        self.assertEqual(readings(tongue, ["one", "ty"]), [10])
        self.assertEqual(readings(tongue, ["one", "+", "ty"]), [11, 12])

    def test_each_sign_beside_ties(self):
        names = [word(number, "w" + sign.lower()) for sign, number in PARTS_OF_43.items()]
        for sign in PARTS_OF_43:
            tongue = Tongue(99, names + [Rule(43, 43, 10, 3, 3, ["aa", "+", sign, "+", "bb"])])
            with self.subTest(sign=sign):
                self.assertEqual(readings(tongue, ["aa", "+", "w" + sign.lower(), "+", "bb"]), [43])
                self.assertEqual(readings(tongue, ["aa", "+", "w" + sign.lower(), "bb"]), [])

    def test_refused(self):
        rows = [
            [], ["+"], ["+", "one"], ["one", "+"], ["four", "+", "+", "ty"], ["one", "hundred", "+"],
            ["a"], ["one", "abcdefghijk"], ["One"], ["one", ""], ["Q", "hundred"], ["one hundred"], ["four", "+", "t"],
        ]
        for row in rows:
            with self.subTest(row=row):
                with self.assertRaises(BadRow) as caught:
                    readings(english(), row)
                self.assertIs(type(caught.exception), BadRow)
                self.assertIsInstance(caught.exception, SayError)
                self.assertIsInstance(caught.exception, ValueError)

    def test_words_that_the_tongue_has_not(self):
        self.assertEqual(readings(english(), ["none"]), [])
        self.assertEqual(readings(Tongue(9, []), ["none"]), [])

    def test_exactly_forty_words_and_forty_one(self):
        self.assertEqual(readings(tens(), ["one"] + ["ten"] * 39), [10 ** 39])
        self.assertEqual(readings(tens(), ["one"] + ["ten"] * 40), [])
        self.assertEqual(readings(tens(["+"]), ["one"] + ["+", "ten"] * 39), [10 ** 39])
        self.assertEqual(readings(tens(["+"]), ["one"] + ["+", "ten"] * 40), [])

    def test_against_the_words_of_the_point(self):
        alike = 0
        for seed in range(100):
            dice = random.Random(seed)
            tongue = chance_tongue(seed, dice.choice([0, 5, 20, 40, 90]))
            rows = rows_of_all(tongue)
            asked = list(rows.values()) + [words_in(row) for row in rows.values()]
            for row in asked:
                numbers = [number for number in rows if rows[number] == row]
                with self.subTest(seed=seed, row=row):
                    self.assertEqual(readings(tongue, row), numbers)
                alike += len(numbers) > 1
        self.assertGreater(alike, 100)

    def test_each_number_is_among_the_readings_of_its_row(self):
        for tongue in living():
            read = 0
            for number in telling_numbers(HUGE):
                row = row_of(tongue, number)
                if row is not None:
                    told = readings(tongue, row)
                    self.assertIn(number, told)
                    self.assertEqual(told, sorted(set(told)))
                    self.assertTrue(all(row_of(tongue, other) == row for other in told))
                    self.assertIn(number, heard(tongue, words_in(row)))
                    read += 1
            self.assertGreater(read, 300)

    def test_the_lists_told_and_handed_in(self):
        tongue = english()
        row = ["four", "+", "ty", "+", "two"]
        told = readings(tongue, row)
        self.assertEqual(row, ["four", "+", "ty", "+", "two"])
        told.append(7)
        row.clear()
        self.assertEqual(readings(tongue, ["four", "+", "ty", "+", "two"]), [42])


if __name__ == "__main__":
    unittest.main()
