"""Points 2.1, 2.2 and 2.3: rows."""

import unittest

from numbersay.rows import is_row, row_of, steps_of, words_in
from numbersay.rules import Rule
from numbersay.tongues import Tongue
from tests.samples import HUGE, chance_tongue, english, german, latin, living, slow_row, telling_numbers, word


PARTS_OF_43 = {4: "qq", 5: "nn", 40: "ww", 50: "uu", 3: "rr", 7: "kk"}


def tens(bound=HUGE, tie=()):
    """1 is "one", and a nought behind a number is one more "ten"."""
    return Tongue(bound, [word(1, "one"), Rule(1, HUGE, 10, 0, 0, ["Q", *tie, "ten"])])


class RowOfTest(unittest.TestCase):

    def test_a_word_alone(self):
        tongue = Tongue(9, [word(0, "nil"), word(3, "tri"), word(9, "nona")])
        self.assertEqual(row_of(tongue, 0), ["nil"])
        self.assertEqual(row_of(tongue, 3), ["tri"])
        self.assertEqual(row_of(tongue, 9), ["nona"])

    def test_each_sign_is_replaced_by_its_row(self):
        names = [word(number, text) for number, text in PARTS_OF_43.items()]
        for sign, text in [("Q", "qq"), ("N", "nn"), ("W", "ww"), ("U", "uu"), ("R", "rr"), ("K", "kk")]:
            with self.subTest(sign=sign):
                tongue = Tongue(99, names + [Rule(43, 43, 10, 3, 3, ["aa", sign, "bb"])])
                self.assertEqual(row_of(tongue, 43), ["aa", text, "bb"])

    def test_pieces_stand_in_their_order(self):
        names = [word(number, text) for number, text in PARTS_OF_43.items()]
        tongue = Tongue(99, names + [Rule(43, 43, 10, 3, 3, ["K", "+", "R", "U", "zz", "W", "N", "Q"])])
        self.assertEqual(row_of(tongue, 43), ["kk", "+", "rr", "uu", "zz", "ww", "nn", "qq"])

    def test_parts_of_parts(self):
        self.assertEqual(row_of(english(), 7), ["seven"])
        self.assertEqual(row_of(english(), 14), ["four", "+", "teen"])
        self.assertEqual(row_of(english(), 42), ["four", "+", "ty", "+", "two"])
        self.assertEqual(
            row_of(english(), 21014),
            ["two", "+", "ty", "+", "one", "thousand", "four", "+", "teen"],
        )
        self.assertEqual(row_of(german(), 21), ["ein", "+", "und", "+", "zwei", "+", "zig"])
        self.assertEqual(row_of(latin(), 58), ["duo", "de", "sex", "+", "ginta"])
        self.assertEqual(row_of(latin(), 18), ["duo", "de", "viginti"])

    def test_the_first_rule_that_covers_is_taken(self):
        rules = [Rule(0, 9, 10, 3, 5, ["few", "+", "R"]), word(3, "tri"), word(4, "four"), word(2, "two")]
        # Of the first rule, 3 leads to 3 without end, though a later rule would do.
        self.assertIsNone(row_of(Tongue(9, rules), 3))
        self.assertEqual(row_of(Tongue(9, rules[1:] + rules[:1]), 3), ["tri"])
        self.assertEqual(row_of(Tongue(9, [word(3, "one"), word(3, "other")]), 3), ["one"])

    def test_the_first_rule_is_taken_for_parts_too(self):
        rules = [Rule(13, 13, 10, 3, 3, ["R", "teen"]), word(3, "first"), word(3, "second")]
        self.assertEqual(row_of(Tongue(99, rules), 13), ["first", "teen"])

    def test_below_nought_at_bound_and_above_it(self):
        rules = [word(number, "w" + "abcdefghij"[number]) for number in range(10)]
        tongue = Tongue(5, rules)
        self.assertEqual(row_of(tongue, 0), ["wa"])
        self.assertEqual(row_of(tongue, 5), ["wf"])
        for number in [-1, -5, -HUGE, 6, 9, HUGE]:
            with self.subTest(number=number):
                self.assertIsNone(row_of(tongue, number))
                self.assertIsNone(steps_of(tongue, number))

    def test_no_rule_covers(self):
        tongue = Tongue(99, [word(1, "one"), Rule(20, 99, 10, 1, 3, ["many", "W", "R"])])
        for number in [0, 2, 19, 20, 24, 99]:
            with self.subTest(number=number):
                self.assertIsNone(row_of(tongue, number))
                self.assertIsNone(steps_of(tongue, number))
        self.assertIsNone(row_of(Tongue(99, []), 0))

    def test_a_part_without_a_row(self):
        rules = [word(1, "one"), word(2, "two"), Rule(10, 99, 10, 0, 9, ["Q", "ten", "R"])]
        tongue = Tongue(99, rules)
        self.assertEqual(row_of(tongue, 12), ["one", "ten", "two"])
        self.assertIsNone(row_of(tongue, 13))
        self.assertIsNone(row_of(tongue, 32))
        self.assertIsNone(row_of(tongue, 33))

    def test_a_part_above_bound(self):
        rules = [word(2, "two"), word(20, "twenty"), Rule(18, 19, 10, 8, 9, ["K", "off", "U"]), word(1, "one")]
        self.assertEqual(row_of(Tongue(20, rules), 18), ["two", "off", "twenty"])
        self.assertEqual(row_of(Tongue(20, rules), 19), ["one", "off", "twenty"])
        self.assertIsNone(row_of(Tongue(19, rules), 18))
        self.assertIsNone(steps_of(Tongue(19, rules), 18))

    def test_a_rule_that_leads_to_itself(self):
        rules = [
            (20, Rule(20, 20, 10, 0, 0, ["aa", "W"])),
            (5, Rule(0, 9, 10, 0, 9, ["R", "+", "aa"])),
            (5, Rule(5, 5, 10, 5, 5, ["K", "aa"])),
            (1, Rule(1, 1, 2, 1, 1, ["aa", "N"])),
            (0, Rule(0, 0, 2, 0, 0, ["aa", "Q"])),
        ]
        for number, rule in rules:
            with self.subTest(pieces=rule.pieces):
                self.assertIsNone(row_of(Tongue(99, [rule]), number))
                self.assertIsNone(steps_of(Tongue(99, [rule]), number))

    def test_a_rule_that_leads_to_itself_twice(self):
        tongue = Tongue(99, [Rule(0, 99, 10, 0, 9, ["W", "aa", "+", "R"])])
        for number in [0, 5, 20, 57]:
            self.assertIsNone(row_of(tongue, number))

    def test_rules_that_lead_to_one_another(self):
        tongue = Tongue(99, [Rule(1, 9, 10, 1, 9, ["from", "K"])])
        for number in range(1, 10):
            self.assertIsNone(row_of(tongue, number))
            self.assertIsNone(steps_of(tongue, number))

    def test_one_that_leads_on_without_end(self):
        # Each U is greater than its number, and no bound of sixty figures is met within 40 words.
        tongue = Tongue(HUGE, [Rule(0, HUGE, 2, 0, 1, ["up", "U", "+", "K"])])
        self.assertIsNone(row_of(tongue, 1))
        tongue = Tongue(HUGE, [Rule(0, HUGE, 7, 0, 0, ["up", "U"])])
        self.assertIsNone(row_of(tongue, 0))
        self.assertIsNone(steps_of(tongue, 0))

    def test_exactly_forty_words_and_forty_one(self):
        self.assertEqual(row_of(tens(), 10 ** 38), ["one"] + ["ten"] * 38)
        self.assertEqual(row_of(tens(), 10 ** 39), ["one"] + ["ten"] * 39)
        self.assertEqual(len(steps_of(tens(), 10 ** 39)), 40)
        for figures in [40, 41, 50, 59]:
            with self.subTest(figures=figures):
                self.assertIsNone(row_of(tens(), 10 ** figures))
                self.assertIsNone(steps_of(tens(), 10 ** figures))

    def test_ties_are_not_counted(self):
        row = row_of(tens(tie=["+"]), 10 ** 39)
        self.assertEqual(row, ["one"] + ["+", "ten"] * 39)
        self.assertIsNone(row_of(tens(tie=["+"]), 10 ** 40))

    def test_all_words_of_a_rule_are_counted(self):
        rules = [Rule(number, number, 2, number % 2, number % 2, ["xx"] * 8) for number in range(1, 10)]
        rules += [
            Rule(20, 29, 10, 1, 9, ["Q", "aa", "aa", "R"]),
            Rule(10, 99, 10, 1, 9, ["Q", "aa", "R"]),
            Rule(1000, 9999, 100, 1, 99, ["Q"] + ["bb"] * 6 + ["R"]),
        ]
        tongue = Tongue(9999, rules)
        self.assertEqual(row_of(tongue, 7), ["xx"] * 8)
        self.assertEqual(len(row_of(tongue, 11)), 17)
        self.assertEqual(len(row_of(tongue, 21)), 18)
        self.assertEqual(len(row_of(tongue, 1111)), 40)
        self.assertIsNone(row_of(tongue, 1121))
        self.assertIsNone(row_of(tongue, 2111))

    def test_two_parts_make_just_forty(self):
        # Parts of 20 and 19 words and a word of the rule's own; then of 20 and 20.
        rules = [word(1, "one"), Rule(1, 10 ** 20, 10, 0, 0, ["Q", "ten"])]
        base = 10 ** 25
        both = Rule(base, HUGE, base, 0, 10 ** 20, ["Q", "big", "R"])
        tongue = Tongue(HUGE, rules + [both])
        self.assertEqual(len(row_of(tongue, base * 10 ** 19 + 10 ** 18)), 40)
        self.assertEqual(len(row_of(tongue, base * 10 ** 18 + 10 ** 19)), 40)
        self.assertIsNone(row_of(tongue, base * 10 ** 19 + 10 ** 19))

    def test_sixty_figures(self):
        self.assertEqual(row_of(english(), 10 ** 59), ["one", "hundred", "thousand", "quint", "myriad"])
        self.assertIsNone(row_of(english(), HUGE))
        self.assertIsNone(row_of(english(), HUGE + 1))

    def test_against_the_words_of_the_point(self):
        for tongue in living():
            for number in telling_numbers(HUGE):
                self.assertEqual(row_of(tongue, number), slow_row(tongue, number))
        for seed in range(120):
            tongue = chance_tongue(seed)
            for number in range(-1, 43):
                with self.subTest(seed=seed, number=number):
                    self.assertEqual(row_of(tongue, number), slow_row(tongue, number))

    def test_the_list_told_is_the_askers_own(self):
        tongue = Tongue(99, [word(4, "four"), Rule(20, 99, 10, 0, 0, ["Q", "+", "ty"])])
        for number, row in [(4, ["four"]), (40, ["four", "+", "ty"])]:
            told = row_of(tongue, number)
            told.append("more")
            told[0] = "less"
            self.assertEqual(row_of(tongue, number), row)
        self.assertEqual(tongue.rules[0].pieces, ["four"])
        self.assertEqual(tongue.rules[1].pieces, ["Q", "+", "ty"])

    def test_lists_handed_in_may_be_changed(self):
        pieces = ["Q", "+", "ty"]
        rules = [word(4, "four"), Rule(20, 99, 10, 0, 0, pieces)]
        tongue = Tongue(99, rules)
        self.assertEqual(row_of(tongue, 40), ["four", "+", "ty"])
        self.assertEqual((pieces, len(rules)), (["Q", "+", "ty"], 2))
        pieces.clear()
        rules.reverse()
        rules.pop()
        self.assertEqual(row_of(tongue, 40), ["four", "+", "ty"])
        self.assertEqual(steps_of(tongue, 40), [(40, 1), (4, 0)])


class StepsOfTest(unittest.TestCase):

    def test_a_word_alone(self):
        self.assertEqual(steps_of(Tongue(9, [word(1, "one"), word(3, "tri")]), 3), [(3, 1)])

    def test_each_part_with_its_own_parts_behind_it(self):
        rules = [
            word(1, "one"),
            word(2, "two"),
            Rule(10, 99, 10, 1, 9, ["R", "and", "Q", "ten"]),
            Rule(100, 9999, 100, 0, 99, ["Q", "cent", "R"]),
        ]
        tongue = Tongue(9999, rules)
        self.assertEqual(
            steps_of(tongue, 1221),
            [(1221, 3), (12, 2), (2, 1), (1, 0), (21, 2), (1, 0), (2, 1)],
        )
        self.assertEqual(
            row_of(tongue, 1221),
            ["two", "and", "one", "ten", "cent", "one", "and", "two", "ten"],
        )

    def test_in_the_order_of_the_pieces(self):
        names = [word(number, "ww") for number in [4, 5, 40, 50, 3, 7]]
        tongue = Tongue(99, names + [Rule(43, 43, 10, 3, 3, ["K", "+", "R", "U", "zz", "W", "N", "Q"])])
        self.assertEqual(
            steps_of(tongue, 43), [(43, 6), (7, 5), (3, 4), (50, 3), (40, 2), (5, 1), (4, 0)],
        )

    def test_the_place_of_the_first_rule(self):
        self.assertEqual(steps_of(Tongue(9, [word(1, "one"), word(3, "tri"), word(3, "other")]), 3), [(3, 1)])

    def test_tuples_in_a_list(self):
        told = steps_of(english(), 42)
        self.assertIsInstance(told, list)
        for step in told:
            self.assertIsInstance(step, tuple)
        self.assertEqual([number for number, place in told], [42, 4, 2])

    def test_none_where_there_is_no_row(self):
        for seed in range(60):
            tongue = chance_tongue(seed)
            for number in range(-1, 43):
                with self.subTest(seed=seed, number=number):
                    self.assertEqual(steps_of(tongue, number) is None, row_of(tongue, number) is None)

    def test_the_list_told_is_the_askers_own(self):
        tongue = english()
        told = steps_of(tongue, 42)
        told.clear()
        self.assertEqual(len(steps_of(tongue, 42)), 3)

    def test_sixty_figures(self):
        numbers = [number for number, place in steps_of(english(), 10 ** 59)]
        self.assertEqual(numbers, [10 ** 59, 10 ** 23, 10 ** 5, 100, 1])


class WordsInTest(unittest.TestCase):

    def test_rows(self):
        self.assertEqual(words_in(["aa"]), ["aa"])
        self.assertEqual(words_in(["aa", "+", "bb", "cc", "+", "aa"]), ["aa", "bb", "cc", "aa"])

    def test_any_other_list_of_texts(self):
        self.assertEqual(words_in([]), [])
        self.assertEqual(words_in(["+"]), [])
        self.assertEqual(words_in(["+", "+", "aa", "+"]), ["aa"])
        self.assertEqual(words_in(["", "++", " +", "Q", "a b", "+"]), ["", "++", " +", "Q", "a b"])

    def test_the_list_handed_in_stays_and_the_told_one_is_new(self):
        for row in [["aa", "+", "bb"], ["aa", "bb"], []]:
            before = list(row)
            told = words_in(row)
            told.append("more")
            self.assertEqual(row, before)
            self.assertEqual(words_in(row), [text for text in before if text != "+"])


class IsRowTest(unittest.TestCase):

    def test_rows(self):
        for row in [["aa"], ["aa", "bb"], ["aa", "+", "bb"], ["aa", "aa", "+", "bb", "cc", "+", "aa"], ["abcdefghij"]]:
            with self.subTest(row=row):
                self.assertIs(is_row(row), True)

    def test_the_empty_list(self):
        self.assertIs(is_row([]), False)

    def test_ties_at_the_ends(self):
        for row in [["+"], ["+", "aa"], ["aa", "+"], ["+", "aa", "+"], ["aa", "bb", "+"], ["+", "aa", "bb"]]:
            with self.subTest(row=row):
                self.assertIs(is_row(row), False)

    def test_ties_side_by_side(self):
        for row in [["aa", "+", "+", "bb"], ["aa", "bb", "+", "+", "cc", "+", "dd"], ["+", "+"]]:
            with self.subTest(row=row):
                self.assertIs(is_row(row), False)

    def test_what_is_no_word(self):
        others = ["", "a", "abcdefghijk", "Aa", "aA", "Q", "R", "a1", "a b", " aa", "aa ", "++", "aa+", "\u00e4\u00e4"]
        for text in others:
            for row in [[text], ["aa", text], [text, "aa"], ["aa", "+", text], ["aa", text, "bb"]]:
                with self.subTest(row=row):
                    self.assertIs(is_row(row), False)

    def test_however_many_words(self):
        self.assertIs(is_row(["aa"] * 40), True)
        self.assertIs(is_row(["aa"] * 41), True)
        self.assertIs(is_row(["aa", "+"] * 40 + ["aa"]), True)
        self.assertIs(is_row(["aa", "+"] * 41), False)

    def test_each_row_of_a_number_is_a_row(self):
        for tongue in living():
            for number in telling_numbers(HUGE):
                row = row_of(tongue, number)
                if row is not None:
                    self.assertIs(is_row(row), True)

    def test_the_list_handed_in_stays(self):
        row = ["aa", "+", "bb"]
        is_row(row)
        self.assertEqual(row, ["aa", "+", "bb"])


if __name__ == "__main__":
    unittest.main()
