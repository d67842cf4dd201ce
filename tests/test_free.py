"""Point 2.4: rows said freely."""

import unittest

from numbersay.free import free_rows
from numbersay.rows import is_row, row_of, words_in
from numbersay.rules import Rule
from numbersay.tongues import Tongue
from tests.samples import HUGE, chance_tongue, living, slow_free_rows, telling_numbers, word


class FreeRowsTest(unittest.TestCase):

    def test_a_word_alone(self):
        tongue = Tongue(9, [word(3, "tri")])
        self.assertEqual(free_rows(tongue, 3, 1), [["tri"]])
        self.assertEqual(free_rows(tongue, 3, 8), [["tri"]])
        self.assertEqual(free_rows(tongue, 4, 8), [])

    def test_not_just_the_first_rule(self):
        rules = [word(3, "tri"), word(3, "abc"), Rule(3, 3, 2, 1, 1, ["two", "+", "and", "R"]), word(1, "one")]
        tongue = Tongue(9, rules)
        self.assertEqual(free_rows(tongue, 3, 8), [["abc"], ["tri"], ["two", "+", "and", "one"]])

    def test_for_the_parts_too(self):
        rules = [word(2, "two"), word(2, "pair"), word(1, "one"), word(1, "ace")]
        rules += [Rule(10, 99, 10, 1, 9, ["Q", "ty", "R"])]
        self.assertEqual(
            free_rows(Tongue(99, rules), 21, 3),
            [["pair", "ty", "ace"], ["pair", "ty", "one"], ["two", "ty", "ace"], ["two", "ty", "one"]],
        )

    def test_of_at_most_so_many_words(self):
        rules = [word(7, "seven"), Rule(7, 7, 5, 2, 2, ["five", "R"]), word(2, "two")]
        rules += [Rule(2, 2, 2, 0, 0, ["Q", "and", "one"]), word(1, "one")]
        tongue = Tongue(99, rules)
        self.assertEqual(free_rows(tongue, 7, 1), [["seven"]])
        self.assertEqual(free_rows(tongue, 7, 2), [["five", "two"], ["seven"]])
        self.assertEqual(free_rows(tongue, 7, 3), [["five", "two"], ["seven"]])
        self.assertEqual(free_rows(tongue, 7, 4), [["five", "one", "and", "one"], ["five", "two"], ["seven"]])

    def test_ties_are_not_counted(self):
        tongue = Tongue(99, [word(4, "four"), Rule(40, 40, 10, 0, 0, ["Q", "+", "ty", "+", "ish"])])
        self.assertEqual(free_rows(tongue, 40, 2), [])
        self.assertEqual(free_rows(tongue, 40, 3), [["four", "+", "ty", "+", "ish"]])

    def test_words_to_spare_go_to_any_part(self):
        rules = [word(1, "one"), Rule(1, 1, 2, 1, 1, ["just", "R"]), Rule(11, 11, 10, 1, 1, ["Q", "ten", "R"])]
        tongue = Tongue(99, rules)
        self.assertEqual(free_rows(tongue, 11, 2), [])
        self.assertEqual(free_rows(tongue, 11, 3), [["one", "ten", "one"]])
        self.assertEqual(
            free_rows(tongue, 11, 4),
            [["just", "one", "ten", "one"], ["one", "ten", "just", "one"], ["one", "ten", "one"]],
        )
        self.assertEqual(len(free_rows(tongue, 11, 5)), 6)
        self.assertEqual(len(free_rows(tongue, 11, 8)), 21)

    def test_a_rule_that_leads_to_itself(self):
        tongue = Tongue(9, [Rule(0, 9, 10, 0, 9, ["so", "R"]), word(4, "four")])
        self.assertIsNone(row_of(tongue, 4))
        self.assertEqual(free_rows(tongue, 4, 1), [["four"]])
        self.assertEqual(free_rows(tongue, 4, 3), [["four"], ["so", "four"], ["so", "so", "four"]])
        self.assertEqual(free_rows(tongue, 4, 8), [["four"]] + [["so"] * count + ["four"] for count in range(1, 8)])
        self.assertEqual(free_rows(tongue, 5, 8), [])

    def test_each_once(self):
        rules = [
            word(1, "aa"), word(1, "aa"), Rule(1, 1, 2, 1, 1, ["aa", "R"]), Rule(1, 1, 2, 1, 1, ["R", "aa"]),
        ]
        self.assertEqual(free_rows(Tongue(9, rules), 1, 8), [["aa"] * count for count in range(1, 9)])

    def test_each_once_where_parts_share_words(self):
        rules = [word(1, "aa"), Rule(1, 1, 2, 1, 1, ["aa", "R"]), Rule(11, 11, 10, 1, 1, ["Q", "aa", "R"])]
        self.assertEqual(free_rows(Tongue(99, rules), 11, 8), [["aa"] * count for count in range(3, 9)])

    def test_rising(self):
        rules = [word(1, text) for text in ["bb", "aa", "ab", "abc"]]
        rules += [Rule(1, 1, 2, 1, 1, ["aa", "+", "R"]), Rule(1, 1, 2, 1, 1, ["aa", "R"])]
        self.assertEqual(
            free_rows(Tongue(9, rules), 1, 2),
            [
                ["aa"], ["aa", "+", "aa"], ["aa", "+", "ab"], ["aa", "+", "abc"], ["aa", "+", "bb"],
                ["aa", "aa"], ["aa", "ab"], ["aa", "abc"], ["aa", "bb"], ["ab"], ["abc"], ["bb"],
            ],
        )

    def test_below_nought_at_bound_and_above_it(self):
        tongue = Tongue(5, [Rule(0, 9, 10, 0, 9, ["so", "R"]), word(5, "five"), word(6, "six")])
        self.assertEqual(free_rows(tongue, 5, 1), [["five"]])
        for number in [-1, -5, -HUGE, 6, 7, HUGE]:
            with self.subTest(number=number):
                self.assertEqual(free_rows(tongue, number, 8), [])

    def test_parts_above_bound(self):
        rules = [word(2, "two"), word(20, "twenty"), Rule(18, 18, 10, 8, 8, ["K", "off", "U"]), word(18, "teen")]
        self.assertEqual(free_rows(Tongue(20, rules), 18, 8), [["teen"], ["two", "off", "twenty"]])
        self.assertEqual(free_rows(Tongue(19, rules), 18, 8), [["teen"]])

    def test_most_below_one(self):
        tongue = Tongue(9, [word(3, "tri")])
        for most in [0, -1, -8, -HUGE]:
            with self.subTest(most=most):
                self.assertEqual(free_rows(tongue, 3, most), [])

    def test_no_rules(self):
        self.assertEqual(free_rows(Tongue(9, []), 0, 8), [])

    def test_a_part_of_many_rows_beside_one_that_has_none(self):
        # The rest has a great many rows, but nothing can be said of how many tens there are.
        rules = [word(1, "a" + letter) for letter in "abcdefghijklmnopqr"]
        rules += [Rule(1, 1, 2, 1, 1, ["b" + letter, "R"]) for letter in "abcdefghijklmnopqr"]
        rules += [Rule(31, 31, 10, 1, 1, ["R", "and", "Q"])]
        self.assertEqual(free_rows(Tongue(99, rules), 31, 8), [])
        self.assertEqual(len(free_rows(Tongue(99, rules), 1, 1)), 18)

    def test_sixty_figures(self):
        rules = [word(1, "one")]
        rules += [Rule(1, HUGE, 10 ** 10, 0, 0, ["Q", "big"]), Rule(1, HUGE, 10 ** 20, 0, 0, ["Q", "huge"])]
        told = free_rows(Tongue(HUGE, rules), 10 ** 50, 6)
        # 50 as a sum of tens and twenties in their order.
        self.assertEqual(len(told), 8)
        self.assertEqual(told[0], ["one", "big", "big", "big", "big", "big"])
        self.assertEqual(told[-1], ["one", "huge", "huge", "big"])
        self.assertEqual(free_rows(Tongue(10 ** 49, rules), 10 ** 50, 6), [])

    def test_the_row_of_a_number_is_among_them(self):
        for tongue in living():
            for number in telling_numbers(HUGE)[:200]:
                row = row_of(tongue, number)
                if row is not None and len(words_in(row)) <= 8:
                    self.assertIn(row, free_rows(tongue, number, len(words_in(row))))
                    self.assertNotIn(row, free_rows(tongue, number, len(words_in(row)) - 1))

    def test_against_the_words_of_the_point(self):
        most_told = 0
        for seed in range(80):
            tongue = chance_tongue(seed, 20)
            for number in range(-1, 22):
                for most in [0, 1, 3, 4]:
                    with self.subTest(seed=seed, number=number, most=most):
                        told = free_rows(tongue, number, most)
                        self.assertEqual(told, sorted(list(row) for row in slow_free_rows(tongue, number, most)))
                        self.assertTrue(all(is_row(row) for row in told))
                        most_told = max(most_told, len(told))
        self.assertGreater(most_told, 5)

    def test_the_lists_told_are_the_askers_own(self):
        tongue = Tongue(9, [word(1, "one"), Rule(1, 1, 2, 1, 1, ["just", "R"])])
        told = free_rows(tongue, 1, 2)
        self.assertEqual(told, [["just", "one"], ["one"]])
        self.assertIsInstance(told[0], list)
        told[0].append("more")
        told[1][0] = "less"
        told.append(["else"])
        self.assertEqual(free_rows(tongue, 1, 2), [["just", "one"], ["one"]])
        self.assertEqual(tongue.rules[0].pieces, ["one"])
        self.assertEqual(tongue.rules[1].pieces, ["just", "R"])


if __name__ == "__main__":
    unittest.main()
