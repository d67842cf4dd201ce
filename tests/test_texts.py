"""Points 5.1 to 5.3: texts read."""

import itertools
import random
import unittest

from numbersay.rules import Rule
from numbersay.sounds import name_of, said
from numbersay.texts import numbers_in, rows_in, run_together
from numbersay.tongues import Tongue, words_of
from tests.samples import HUGE, altered, bearing, chance_melts, chance_text, danish, english, german, latin, living
from tests.samples import slow_names, slow_said, sounding_tongue, telling_numbers, word


def tens(*tie, bound=HUGE):
    """1 is "one", and a nought behind a number is one more "ten"."""
    return Tongue(bound, [word(1, "one"), Rule(1, HUGE, 10, 0, 0, ["Q", *tie, "ten"])])


def same_names():
    """Three numbers are "aa", and three are "aa aa"."""
    return Tongue(99, [word(number, "aa") for number in [7, 3, 5]] + [Rule(10, 99, 10, 0, 0, ["Q", "aa"])])


def worded(words, melts=()):
    """A tongue that has just these words."""
    return Tongue(99, [word(number, text) for number, text in enumerate(words)], list(melts))


class NumbersInTest(unittest.TestCase):

    def test_living_tongues(self):
        self.assertEqual(numbers_in(english(), "zero"), [0])
        self.assertEqual(numbers_in(english(), "eighteen"), [18])
        self.assertEqual(numbers_in(english(), "two hundred and fortythree"), [243])
        self.assertEqual(numbers_in(german(), "hundertundzweiunddreissig"), [132])
        self.assertEqual(numbers_in(german(), "ein millionen sechzehn"), [1000016])
        self.assertEqual(numbers_in(latin(), "unus de sexaginta"), [59])
        self.assertEqual(numbers_in(danish(), "halvtre sinds"), [50])
        self.assertEqual(numbers_in(english(), "one hundred thousand quint myriad"), [10 ** 59])

    def test_the_empty_text_and_blanks_alone(self):
        for tongue in living() + [Tongue(9, []), same_names()]:
            for text in ["", " ", "  ", "   "]:
                self.assertEqual(numbers_in(tongue, text), [])

    def test_a_blank_at_an_end_and_two_side_by_side(self):
        for text in [" one", "one ", " one ", "two  hundred", "two hundred ", " two hundred", "two hundred  and one"]:
            with self.subTest(text=text):
                self.assertEqual(numbers_in(english(), text), [])

    def test_blanks_left_out_or_put_elsewhere(self):
        for text in ["twohundred", "fortythree ", "forty three", "two hund red", "t wo hundred", "four ty"]:
            with self.subTest(text=text):
                self.assertEqual(numbers_in(english(), text), [])

    def test_a_letter_more_or_less_or_put_otherwise(self):
        for text in ["twentyon", "twentyonee", "twentyonf", "wentyone", "ttwentyone", "twenyone", "twetnyone"]:
            with self.subTest(text=text):
                self.assertEqual(numbers_in(english(), text), [])
        self.assertEqual(numbers_in(english(), "twentyone"), [21])

    def test_texts_of_other_signs(self):
        for text in ["Two", "TWO", "two+ty", "two + ty", "two hundred+and one", "2", "200", "two-ty", "~", "+", "two~"]:
            with self.subTest(text=text):
                self.assertEqual(numbers_in(english(), text), [])

    def test_what_would_stand_there_without_a_melt(self):
        for text in ["twoty", "threeteen", "eightteen", "fourty", "twotyone"]:
            with self.subTest(text=text):
                self.assertEqual(numbers_in(english(), text), [])

    def test_of_no_number_of_one_and_of_several(self):
        self.assertEqual(numbers_in(same_names(), "aa"), [3, 5, 7])
        self.assertEqual(numbers_in(same_names(), "aa aa"), [30, 50, 70])
        self.assertEqual(numbers_in(same_names(), "aa aa aa"), [])
        self.assertEqual(numbers_in(same_names(), "aaaa"), [])
        self.assertEqual(numbers_in(english(), "hundred"), [])
        self.assertEqual(numbers_in(english(), "zero hundred"), [])
        self.assertEqual(numbers_in(english(), "two hundred and"), [])

    def test_a_name_of_two_numbers_by_unlike_rows(self):
        rules = [word(1, "one"), Rule(11, 11, 10, 1, 1, ["R", "+", "ty"]), word(12, "onety")]
        self.assertEqual(numbers_in(Tongue(99, rules), "onety"), [11, 12])
        melting = Tongue(99, rules + [word(13, "ontty")], [("e", "t", "tt")])
        self.assertEqual(numbers_in(melting, "ontty"), [11, 13])
        self.assertEqual(numbers_in(melting, "onety"), [12])

    def test_at_bound_and_above_it(self):
        rules = [word(5, "five"), word(6, "six"), word(10, "ten"), Rule(10, 99, 10, 5, 6, ["W", "+", "R", "ish"])]
        self.assertEqual(numbers_in(Tongue(5, rules), "five"), [5])
        self.assertEqual(numbers_in(Tongue(5, rules), "six"), [])
        self.assertEqual(numbers_in(Tongue(15, rules), "tenfive ish"), [15])
        self.assertEqual(numbers_in(Tongue(15, rules), "tensix ish"), [])
        self.assertEqual(numbers_in(Tongue(14, rules), "tenfive ish"), [])

    def test_a_part_above_bound(self):
        rules = [word(2, "two"), word(20, "twenty"), Rule(18, 18, 10, 8, 8, ["K", "off", "+", "U"])]
        self.assertEqual(numbers_in(Tongue(20, rules), "two offtwenty"), [18])
        self.assertEqual(numbers_in(Tongue(19, rules), "two offtwenty"), [])

    def test_only_the_first_rule_of_a_number(self):
        tongue = Tongue(99, [word(3, "tri"), word(3, "other"), word(4, "other")])
        self.assertEqual(numbers_in(tongue, "tri"), [3])
        self.assertEqual(numbers_in(tongue, "other"), [4])

    def test_words_that_are_beginnings_of_one_another(self):
        rules = [word(1, "on"), word(2, "one"), word(3, "oneon"), word(4, "neon"), word(5, "eon")]
        tongue = Tongue(99, rules + [Rule(10, 99, 10, 1, 9, ["Q", "+", "on", "+", "R"])])
        self.assertEqual(numbers_in(tongue, "one"), [2])
        self.assertEqual(numbers_in(tongue, "oneon"), [3])
        self.assertEqual(numbers_in(tongue, "ononon"), [11])
        self.assertEqual(numbers_in(tongue, "ononeon"), [15])
        # "one" "on" "oneon", and "oneon" "on" "eon".
        self.assertEqual(numbers_in(tongue, "oneononeon"), [23, 35])
        self.assertEqual(numbers_in(tongue, "oneonononeon"), [33])

    def test_melts_that_fit_in_several_places(self):
        rules = [word(1, "aa"), word(2, "ab"), Rule(10, 99, 10, 1, 9, ["Q", "+", "aab", "+", "R"])]
        tongue = Tongue(99, rules, [("a", "a", "a"), ("b", "a", "b")])
        names = slow_names(tongue)
        self.assertEqual(names, {1: "aa", 2: "ab", 11: "aaabab"[:4] + "a", 12: "aaabb", 21: "ababa", 22: "ababb"})
        for number, name in names.items():
            self.assertEqual(numbers_in(tongue, name), [number])

    def test_letters_that_melt_twice(self):
        # "ab" and "ab" become "aab" at the first tie, of which more melts at the next one.
        rules = [Rule(7, 7, 10, 7, 7, ["ab", "+", "ab", "+", "ab"])]
        tongue = Tongue(9, rules, [("ab", "a", "aa"), ("aab", "a", "bbb"), ("bab", "a", "zzz")])
        name = name_of(tongue, 7)
        self.assertEqual(name, slow_names(tongue)[7])
        self.assertEqual(numbers_in(tongue, name), [7])

    def test_the_longest_word_with_the_longest_melt(self):
        rules = [Rule(1, 1, 2, 1, 1, ["xa", "+", "bcdefghijk"])]
        rules += [Rule(2, 2, 2, 0, 0, ["xa", "+", "bc", "+", "dcdefghijk"])]
        tongue = Tongue(9, rules, [("a", "b", "mmmmmm"), ("c", "d", "nnnnnn")])
        self.assertEqual(numbers_in(tongue, "xmmmmmmcdefghijk"), [1])
        self.assertEqual(numbers_in(tongue, "xmmmmmmnnnnnncdefghijk"), [2])
        self.assertEqual(rows_in(tongue, "xmmmmmmcdefghijk"), [["xa", "+", "bcdefghijk"]])

    def test_exactly_forty_words_and_forty_one(self):
        self.assertEqual(numbers_in(tens(), "one" + " ten" * 39), [10 ** 39])
        self.assertEqual(numbers_in(tens(), "one" + " ten" * 40), [])
        self.assertEqual(numbers_in(tens("+"), "one" + "ten" * 39), [10 ** 39])
        self.assertEqual(numbers_in(tens("+"), "one" + "ten" * 40), [])

    def test_forty_words_by_one_way_and_forty_one_by_another(self):
        # "aaaa" may be two words or one: with one of them there are 40 words, which is 10 ** 39, or 41.
        rules = [word(1, "aa"), word(2, "aaaa"), Rule(1, HUGE, 10, 0, 0, ["Q", "+", "aa"])]
        self.assertEqual(numbers_in(Tongue(HUGE, rules), "aa" * 40), [2 * 10 ** 38, 10 ** 39])
        self.assertEqual(numbers_in(Tongue(HUGE, rules), "aa" * 41), [2 * 10 ** 39])
        self.assertEqual(numbers_in(Tongue(HUGE, rules), "aa" * 42), [])

    def test_forty_words_and_forty_one_with_parts(self):
        rules = [Rule(10 ** 40 + 1, HUGE, 10 ** 40, 1, 10 ** 40 - 1, ["Q", "big", "R"])] + tens().rules
        tongue = Tongue(HUGE, rules)
        self.assertEqual(numbers_in(tongue, "one big one" + " ten" * 37), [10 ** 40 + 10 ** 37])
        self.assertEqual(numbers_in(tongue, "one big one" + " ten" * 38), [])

    def test_rules_that_do_not_end(self):
        tongue = Tongue(9, [Rule(0, 9, 10, 3, 5, ["so", "R"]), word(3, "tri"), Rule(8, 8, 10, 8, 8, ["R", "so"])])
        for text in ["so tri", "tri", "so", "so so", "so so so so"]:
            self.assertEqual(numbers_in(tongue, text), [])

    def test_texts_of_five_hundred_signs(self):
        self.assertEqual(numbers_in(english(), "one " * 124 + "one"), [])
        self.assertEqual(numbers_in(english(), "one" * 166), [])
        rules = [word(1, "aa"), word(2, "aaa"), Rule(3, 99, 3, 0, 2, ["Q", "+", "aa", "+", "R"]), word(0, "aaaa")]
        for text in ["a" * 500, "a" * 499 + "b", "aa " * 166 + "aa"]:
            self.assertEqual(numbers_in(Tongue(99, rules), text), [])
            self.assertEqual(run_together(Tongue(99, rules), text), [])

    def test_each_number_is_found_by_its_name(self):
        for tongue in living():
            read = 0
            for number in telling_numbers(HUGE)[::2]:
                name = name_of(tongue, number)
                if name is not None:
                    told = numbers_in(tongue, name)
                    self.assertIn(number, told)
                    self.assertEqual(told, sorted(set(told)))
                    self.assertTrue(all(name_of(tongue, other) == name for other in told))
                    read += 1
            self.assertGreater(read, 150)


class RunTogetherTest(unittest.TestCase):

    def test_blanks_left_out_and_put_elsewhere(self):
        texts = [
            "twohundredandfortythree", "two hundred and fortythree", "two hundredandfortythree",
            "twohun dredand forty three", " twohundredandfortythree", "twohundredandfortythree ",
            "two  hundred   and fortythree", " ".join("twohundredandfortythree"),
        ]
        for text in texts:
            with self.subTest(text=text):
                self.assertEqual(run_together(english(), text), [243])

    def test_the_empty_text_and_blanks_alone(self):
        for tongue in living() + [Tongue(9, []), same_names()]:
            for text in ["", " ", "  ", "   "]:
                self.assertEqual(run_together(tongue, text), [])

    def test_a_letter_more_or_less_or_put_otherwise(self):
        for text in ["twohundre", "twohundredd", "twohundret", "wohundred", "twohndred", "hundredtwo"]:
            with self.subTest(text=text):
                self.assertEqual(run_together(english(), text), [])

    def test_texts_of_other_signs(self):
        for text in ["Two", "two+hundred", "two-hundred", "200", "~", "+", "two hundred."]:
            with self.subTest(text=text):
                self.assertEqual(run_together(english(), text), [])

    def test_of_no_number_of_one_and_of_several(self):
        self.assertEqual(run_together(same_names(), "aa"), [3, 5, 7])
        self.assertEqual(run_together(same_names(), "a a"), [3, 5, 7])
        self.assertEqual(run_together(same_names(), "aaaa"), [30, 50, 70])
        self.assertEqual(run_together(same_names(), "aaaaaa"), [])
        self.assertEqual(run_together(same_names(), "aaa"), [])

    def test_names_that_only_blanks_tell_apart(self):
        rules = [word(1, "ab"), word(2, "abab"), Rule(11, 11, 10, 1, 1, ["Q", "ab"])]
        rules += [Rule(21, 21, 10, 1, 1, ["Q", "ab"]), Rule(12, 12, 10, 2, 2, ["Q", "+", "ab"])]
        tongue = Tongue(99, rules + [Rule(10, 10, 10, 0, 0, ["Q", "abab"])])
        self.assertEqual(numbers_in(tongue, "abab"), [2, 12])
        self.assertEqual(numbers_in(tongue, "ab ab"), [11])
        self.assertEqual(run_together(tongue, "abab"), [2, 11, 12])
        self.assertEqual(run_together(tongue, "ab ab"), [2, 11, 12])
        self.assertEqual(run_together(tongue, "ababab"), [10, 21])

    def test_words_that_are_beginnings_of_one_another(self):
        rules = [word(1, "on"), word(2, "one"), word(3, "oneon"), word(4, "neon"), word(5, "eon")]
        tongue = Tongue(99, rules + [Rule(10, 99, 10, 1, 9, ["Q", "on", "R"])])
        self.assertEqual(run_together(tongue, "oneononeon"), [23, 35])
        self.assertEqual(run_together(tongue, "oneonononeon"), [33])
        self.assertEqual(numbers_in(tongue, "one on oneon"), [23])

    def test_only_what_is_tied_melts(self):
        rules = [word(1, "ab"), Rule(10, 10, 10, 0, 0, ["Q", "ba"]), Rule(11, 11, 10, 1, 1, ["Q", "+", "ba"])]
        tongue = Tongue(99, rules, [("b", "b", "x")])
        self.assertEqual(run_together(tongue, "abba"), [10])
        self.assertEqual(run_together(tongue, "axa"), [11])
        self.assertEqual(run_together(tongue, "ab ba"), [10])

    def test_no_melt_reaches_over_a_blank(self):
        rules = [Rule(1, 1, 2, 1, 1, ["ab", "ab", "+", "cd"]), Rule(2, 2, 2, 0, 0, ["ab", "+", "ab", "+", "cd"])]
        tongue = Tongue(9, rules, [("bab", "c", "xyz")])
        self.assertEqual(run_together(tongue, "ababcd"), [1])
        self.assertEqual(run_together(tongue, "axyzd"), [2])

    def test_above_bound(self):
        self.assertEqual(run_together(tens(bound=100), "onetenten"), [100])
        self.assertEqual(run_together(tens(bound=99), "onetenten"), [])

    def test_exactly_forty_words_and_forty_one(self):
        for tongue in [tens(), tens("+")]:
            self.assertEqual(run_together(tongue, "one" + "ten" * 39), [10 ** 39])
            self.assertEqual(run_together(tongue, "one" + " ten" * 39), [10 ** 39])
            self.assertEqual(run_together(tongue, "one" + "ten" * 40), [])

    def test_each_number_is_found_by_its_name(self):
        for tongue in living():
            read = 0
            for number in telling_numbers(HUGE)[::2]:
                name = name_of(tongue, number)
                if name is not None:
                    told = run_together(tongue, name.replace(" ", ""))
                    self.assertIn(number, told)
                    self.assertEqual(told, sorted(set(told)))
                    self.assertEqual(run_together(tongue, name), told)
                    read += 1
            self.assertGreater(read, 150)


class SmallTonguesTest(unittest.TestCase):

    def test_just_the_numbers_that_have_the_name(self):
        several = 0
        for seed in range(80):
            tongue, dice = sounding_tongue(seed), random.Random(seed)
            names = slow_names(tongue)
            bare = {number: name.replace(" ", "") for number, name in names.items()}
            texts = sorted(set(names.values()))
            for text in texts + [other for text in texts for other in altered(dice, text)]:
                with self.subTest(seed=seed, text=text):
                    self.assertEqual(numbers_in(tongue, text), bearing(names, text))
                    together = bearing(bare, text.replace(" ", ""))
                    self.assertEqual(run_together(tongue, text), together)
                    several += len(together) > 1
        self.assertGreater(several, 300)


class RowsInTest(unittest.TestCase):

    def test_one_word(self):
        self.assertEqual(rows_in(worded(["ab", "cd"]), "ab"), [["ab"]])
        self.assertEqual(rows_in(worded(["ab", "cd"]), "ba"), [])

    def test_blanks_and_ties(self):
        tongue = worded(["ab", "cd"])
        self.assertEqual(rows_in(tongue, "ab cd"), [["ab", "cd"]])
        self.assertEqual(rows_in(tongue, "abcd"), [["ab", "+", "cd"]])
        self.assertEqual(rows_in(tongue, "abcd ab abab"), [["ab", "+", "cd", "ab", "ab", "+", "ab"]])

    def test_all_rows_rising(self):
        self.assertEqual(
            rows_in(worded(["abab", "ab", "ababab"]), "ababab ab"),
            [
                ["ab", "+", "ab", "+", "ab", "ab"], ["ab", "+", "abab", "ab"], ["abab", "+", "ab", "ab"],
                ["ababab", "ab"],
            ],
        )

    def test_not_just_rows_of_numbers(self):
        self.assertEqual(rows_in(english(), "hundred zero"), [["hundred", "zero"]])
        self.assertEqual(rows_in(english(), "tyty"), [["ty", "+", "ty"]])
        self.assertEqual(rows_in(english(), "fortytwo"), [["four", "+", "ty", "+", "two"]])
        self.assertEqual(rows_in(Tongue(0, [word(5, "five")]), "five"), [["five"]])

    def test_just_the_tongues_words(self):
        self.assertEqual(rows_in(worded(["ab"]), "abcd"), [])
        self.assertEqual(rows_in(worded(["ab"]), "ab cd"), [])
        self.assertEqual(rows_in(Tongue(9, []), "ab"), [])

    def test_the_empty_text_and_blanks(self):
        tongue = worded(["ab", "cd"])
        for text in ["", " ", "  ", " ab", "ab ", " ab ", "ab  cd", "ab cd ", "ab   cd"]:
            with self.subTest(text=text):
                self.assertEqual(rows_in(tongue, text), [])

    def test_texts_of_other_signs(self):
        for text in ["AB", "ab+cd", "ab + cd", "+", "ab-cd", "ab.", "1", "~"]:
            with self.subTest(text=text):
                self.assertEqual(rows_in(worded(["ab", "cd"]), text), [])

    def test_melts(self):
        tongue = worded(["two", "ty", "twenty"], [("two", "ty", "twenty")])
        self.assertEqual(rows_in(tongue, "twenty"), [["twenty"], ["two", "+", "ty"]])
        self.assertEqual(rows_in(tongue, "two ty"), [["two", "ty"]])
        self.assertEqual(rows_in(tongue, "twoty"), [])
        self.assertEqual(rows_in(tongue, "twenty twenty"), [
            ["twenty", "twenty"], ["twenty", "two", "+", "ty"], ["two", "+", "ty", "twenty"],
            ["two", "+", "ty", "two", "+", "ty"],
        ])

    def test_only_at_ties_and_not_over_blanks(self):
        tongue = worded(["ab", "cd"], [("bab", "c", "xyz")])
        self.assertEqual(rows_in(tongue, "ab abcd"), [["ab", "ab", "+", "cd"]])
        self.assertEqual(rows_in(tongue, "axyzd"), [["ab", "+", "ab", "+", "cd"]])
        self.assertEqual(rows_in(tongue, "ababcd"), [])

    def test_more_than_forty_words(self):
        tongue = worded(["aa", "ab"])
        self.assertEqual(rows_in(tongue, "aa" * 250), [["aa"] + ["+", "aa"] * 249])
        self.assertEqual(rows_in(tongue, "aa " * 166 + "ab"), [["aa"] * 166 + ["ab"]])
        # A great many ways begin, and none of them comes to the end.
        self.assertEqual(rows_in(worded(["aa", "aaa", "ab"]), "a" * 499 + "c"), [])

    def test_two_hundred_rows(self):
        rows = rows_in(worded(["aa", "aaa"]), "a" * 22)
        self.assertEqual(rows, sorted(rows))
        self.assertTrue(all(said(worded([]), row) == "a" * 22 for row in rows))
        self.assertEqual(len({tuple(row) for row in rows}), 200)
        self.assertEqual(len(rows), 200)

    def test_against_the_words_of_the_point(self):
        told = 0
        for seed in range(120):
            dice = random.Random(seed)
            words = [chance_text(dice, 2, 3) for _ in range(dice.randrange(2, 4))]
            tongue = worded(words, chance_melts(dice))
            rows = slow_rows(tongue, 7)
            texts = list(rows) + ["".join(signs) for signs in itertools.product("ab ", repeat=4)]
            for text in texts:
                with self.subTest(melts=tongue.melts, words=words, text=text):
                    self.assertEqual(rows_in(tongue, text), sorted(rows.get(text, [])))
                    told += len(rows.get(text, [])) > 1
        self.assertGreater(told, 50)


def slow_rows(tongue, longest):
    """A dict from texts to all rows of the tongue's words that are said so, for all texts of up to longest signs."""
    rows = {}
    begun = [[text] for text in words_of(tongue)]
    while begun:
        longer = []
        for row in begun:
            text = slow_said(tongue, row)
            if len(text) <= longest:
                rows.setdefault(text, []).append(row)
                for behind in words_of(tongue):
                    longer += [row + [behind], row + ["+", behind]]
        begun = longer
    return rows


class OwnListsTest(unittest.TestCase):

    def test_lists_told_are_the_askers_own(self):
        tongue = same_names()
        for ask in [numbers_in, run_together]:
            ask(tongue, "aa").append(9)
            self.assertEqual(ask(tongue, "aa"), [3, 5, 7])
        told = rows_in(worded(["ab", "abab"]), "abab")
        self.assertEqual(told, [["ab", "+", "ab"], ["abab"]])
        told[0].clear()
        told.pop()
        self.assertEqual(rows_in(worded(["ab", "abab"]), "abab"), [["ab", "+", "ab"], ["abab"]])

    def test_rows_told_share_nothing(self):
        tongue = worded(["ab", "abab"])
        told = rows_in(tongue, "ab abab")
        told[0][0] = "zz"
        self.assertEqual(told[1], ["ab", "abab"])
        self.assertEqual(words_of(tongue), ["ab", "abab"])

    def test_lists_handed_in_stay_and_may_be_changed_afterwards(self):
        pieces, melts = ["Q", "+", "ty"], [("r", "t", "t")]
        rules = [word(4, "four"), Rule(40, 40, 10, 0, 0, pieces)]
        tongue = Tongue(99, rules, melts)
        self.assertEqual(numbers_in(tongue, "fouty"), [40])
        self.assertEqual((pieces, melts, len(rules)), (["Q", "+", "ty"], [("r", "t", "t")], 2))
        pieces.reverse()
        melts.clear()
        rules.clear()
        self.assertEqual(numbers_in(tongue, "fouty"), [40])
        self.assertEqual(run_together(tongue, "fou ty"), [40])
        self.assertEqual(rows_in(tongue, "fouty"), [["four", "+", "ty"]])


if __name__ == "__main__":
    unittest.main()
