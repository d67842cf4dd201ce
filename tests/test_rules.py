"""Points 1.1, 1.2 and 1.3: words, rules, parts, and the way back from parts to numbers."""

import unittest

from numbersay.errors import BadParts, BadRule, NotCovered
from numbersay.rules import Rule, covers, is_word, numbers_from, parts_of

SIGNS = ["Q", "N", "W", "U", "R", "K"]
HUGE = 10 ** 60 - 1


class WordTest(unittest.TestCase):

    def test_words(self):
        for text in ["ab", "az", "zz", "one", "abcdefghi", "abcdefghij", "qrstuvwxyz"]:
            with self.subTest(text=text):
                self.assertIs(is_word(text), True)

    def test_too_short_or_too_long(self):
        for text in ["", "a", "z", "abcdefghijk", "a" * 500]:
            with self.subTest(text=text):
                self.assertIs(is_word(text), False)

    def test_other_signs(self):
        texts = [
            "One", "onE", "ONE", "on1", "12", "1ab", " ab", "ab ", "a b", "  ", "ab\n", "\nab",
            "ab+", "+", "++", "a-b", "a_b", "`ab", "ab{", "a~", "@a", "[a", "\u00e4b", "\u03b1\u03b2", "\uff41b",
        ]
        for text in texts:
            with self.subTest(text=text):
                self.assertIs(is_word(text), False)

    def test_signs_of_parts_are_no_words(self):
        for text in SIGNS + ["QR", "KK"]:
            with self.subTest(text=text):
                self.assertIs(is_word(text), False)


class RuleMadeTest(unittest.TestCase):

    def refused(self, *given):
        with self.subTest(given=given):
            with self.assertRaises(BadRule):
                Rule(*given)

    def made(self, *given):
        with self.subTest(given=given):
            rule = Rule(*given)
            told = (rule.low, rule.high, rule.base, rule.first, rule.last, rule.pieces)
            self.assertEqual(told, given)

    def test_fields(self):
        rule = Rule(20, 99, 10, 1, 9, ["W", "and", "R"])
        self.assertEqual((rule.low, rule.high, rule.base), (20, 99, 10))
        self.assertEqual((rule.first, rule.last), (1, 9))
        self.assertEqual(rule.pieces, ["W", "and", "R"])
        self.assertIsInstance(rule.pieces, list)

    def test_by_name(self):
        rule = Rule(pieces=["Q", "ty"], last=0, first=0, base=10, high=90, low=20)
        self.assertEqual((rule.low, rule.high, rule.base), (20, 90, 10))
        self.assertEqual((rule.first, rule.last, rule.pieces), (0, 0, ["Q", "ty"]))

    def test_pieces_handed_in_are_neither_kept_nor_changed(self):
        pieces = ["Q", "ty", "+", "R"]
        rule = Rule(20, 99, 10, 1, 9, pieces)
        self.assertEqual(pieces, ["Q", "ty", "+", "R"])
        pieces[1] = "teen"
        pieces.append("more")
        self.assertEqual(rule.pieces, ["Q", "ty", "+", "R"])
        self.assertEqual(parts_of(rule, 42), {"Q": 4, "R": 2})

    def test_low(self):
        self.made(0, 0, 2, 0, 0, ["nil"])
        self.refused(-1, 0, 2, 0, 0, ["Q", "nil"])
        self.refused(-1, -1, 2, 1, 1, ["nil"])
        self.refused(-HUGE, 0, 2, 0, 0, ["Q", "nil"])

    def test_high(self):
        self.made(5, 5, 10, 5, 5, ["five"])
        self.made(5, 6, 10, 5, 5, ["five"])
        self.refused(5, 4, 10, 5, 5, ["five"])
        self.refused(5, 0, 10, 5, 5, ["five"])

    def test_base(self):
        self.made(0, 0, 2, 0, 0, ["nil"])
        self.refused(0, 0, 1, 0, 0, ["nil"])
        self.refused(0, 0, 0, 0, 0, ["nil"])
        self.refused(0, 0, -1, 0, 0, ["nil"])
        self.refused(0, 0, -10, 0, 0, ["nil"])

    def test_first(self):
        self.made(0, 9, 10, 0, 1, ["aa", "R"])
        self.refused(0, 9, 10, -1, 1, ["aa", "R"])
        self.refused(0, 9, 10, -1, -1, ["aa"])

    def test_last_and_first(self):
        self.made(0, 9, 10, 4, 4, ["aa", "R"])
        self.made(0, 9, 10, 4, 5, ["aa", "R"])
        self.refused(0, 9, 10, 4, 3, ["aa", "R"])
        self.refused(0, 9, 10, 1, 0, ["aa", "R"])

    def test_last_and_base(self):
        self.made(0, 9, 10, 0, 9, ["aa", "R"])
        self.made(0, 9, 10, 9, 9, ["aa"])
        self.refused(0, 9, 10, 0, 10, ["aa", "R"])
        self.refused(0, 9, 10, 10, 10, ["aa"])

    def test_how_many_pieces(self):
        self.refused(0, 0, 2, 0, 0, [])
        self.made(0, 0, 2, 0, 0, ["aa"])
        self.made(0, 0, 2, 0, 0, ["aa"] * 8)
        self.refused(0, 0, 2, 0, 0, ["aa"] * 9)
        self.made(0, 99, 10, 0, 9, ["aa", "Q", "N", "W", "U", "R", "K", "bb"])
        self.refused(0, 99, 10, 0, 9, ["aa", "+", "Q", "N", "W", "U", "R", "K", "bb"])

    def test_ties_count_as_pieces(self):
        self.made(0, 0, 2, 0, 0, ["aa", "+", "aa", "+", "aa", "+", "aa", "aa"])
        self.refused(0, 0, 2, 0, 0, ["aa", "+", "aa", "+", "aa", "+", "aa", "+", "aa"])

    def test_what_is_no_piece(self):
        texts = [
            "", "a", "abcdefghijk", "Ab", "AB", "a b", " ", "ab ", "ab1", "1", "q", "r", "X", "A", "QR", "QQ",
            "++", "-", "+a", "+ ", "Q+", "Q ", "NWU", "\u00e4\u00f6",
        ]
        for text in texts:
            self.refused(0, 99, 10, 0, 9, ["aa", text, "Q", "R"])
            self.refused(0, 99, 10, 0, 9, [text, "Q", "R", "aa"])
            self.refused(0, 99, 10, 0, 9, ["Q", "R", "aa", text])

    def test_words_at_their_edges_are_pieces(self):
        self.made(0, 0, 2, 0, 0, ["ab", "+", "abcdefghij"])

    def test_no_word(self):
        self.refused(0, 99, 10, 0, 9, ["Q", "R"])
        self.refused(0, 99, 10, 0, 9, ["Q", "+", "R"])
        self.refused(1, 1, 10, 1, 1, ["R"])
        self.refused(0, 99, 10, 0, 9, SIGNS)
        self.made(0, 99, 10, 0, 9, ["Q", "aa", "R"])
        self.made(0, 99, 10, 0, 9, SIGNS + ["aa"])

    def test_a_sign_twice(self):
        for sign in SIGNS:
            self.made(10, 10, 10, 0, 0, ["aa", sign])
            self.refused(10, 10, 10, 0, 0, ["aa", sign, sign])
            self.refused(10, 10, 10, 0, 0, [sign, "aa", "+", sign])

    def test_two_unlike_signs(self):
        for one in SIGNS:
            for other in SIGNS:
                if one != other:
                    self.made(10, 10, 10, 0, 0, [one, "aa", other])

    def test_a_word_may_stand_twice(self):
        self.made(0, 0, 2, 0, 0, ["aa", "aa", "+", "aa"])

    def test_ties(self):
        self.made(0, 9, 10, 0, 9, ["aa", "+", "R"])
        self.made(0, 9, 10, 0, 9, ["R", "+", "aa"])
        self.made(0, 9, 10, 0, 9, ["aa", "+", "bb", "+", "R"])
        self.refused(0, 9, 10, 0, 9, ["+", "aa", "R"])
        self.refused(0, 9, 10, 0, 9, ["aa", "R", "+"])
        self.refused(0, 9, 10, 0, 9, ["aa", "+", "+", "R"])
        self.refused(0, 9, 10, 0, 9, ["aa", "R", "+", "+", "bb"])
        self.refused(0, 9, 10, 0, 9, ["aa", "+", "R", "bb", "+", "+", "cc"])
        self.refused(0, 0, 2, 0, 0, ["+"])

    def test_telling_the_rest(self):
        self.made(10, 19, 10, 1, 1, ["aa"])
        self.refused(10, 19, 10, 1, 2, ["aa"])
        self.refused(10, 19, 10, 0, 9, ["aa", "Q", "N", "W", "U"])
        self.made(10, 19, 10, 1, 2, ["aa", "R"])
        self.made(10, 19, 10, 1, 2, ["aa", "K"])

    def test_telling_the_rest_where_one_number_alone_is_covered(self):
        self.refused(11, 11, 10, 1, 2, ["aa"])
        self.made(11, 11, 10, 1, 1, ["aa"])

    def test_telling_the_times(self):
        self.made(10, 19, 10, 0, 9, ["aa", "R"])
        self.refused(9, 19, 10, 0, 9, ["aa", "R"])
        self.refused(10, 20, 10, 0, 9, ["aa", "R"])
        self.refused(10, 20, 10, 0, 9, ["aa", "R", "K"])
        self.refused(0, 10, 10, 0, 0, ["aa"])
        self.made(0, 9, 10, 0, 0, ["aa"])
        for sign in ["Q", "N", "W", "U"]:
            self.made(0, 20, 10, 0, 0, ["aa", sign])
            self.made(9, 20, 10, 0, 9, ["aa", sign, "R"])

    def test_telling_the_times_where_one_number_alone_is_covered(self):
        self.refused(9, 12, 10, 1, 1, ["aa"])
        self.made(10, 12, 10, 1, 1, ["aa"])

    def test_numbers_of_sixty_figures(self):
        self.made(HUGE, HUGE, HUGE, 0, 0, ["aa"])
        self.made(0, HUGE, HUGE, 0, HUGE - 1, ["Q", "aa", "R"])
        self.made(0, HUGE - 1, HUGE, 0, HUGE - 1, ["aa", "R"])
        self.refused(0, HUGE, HUGE, 0, HUGE - 1, ["aa", "R"])
        self.refused(0, HUGE, HUGE, 0, HUGE, ["Q", "aa", "R"])
        self.refused(HUGE, HUGE - 1, 10, 0, 9, ["Q", "aa", "R"])
        self.refused(0, HUGE, HUGE, HUGE - 1, HUGE - 2, ["Q", "aa", "R"])


class CoversTest(unittest.TestCase):

    def test_low_and_high(self):
        rule = Rule(20, 95, 10, 0, 9, ["Q", "ty", "R"])
        for number, covered in [(19, False), (20, True), (21, True), (94, True), (95, True), (96, False)]:
            with self.subTest(number=number):
                self.assertIs(covers(rule, number), covered)

    def test_first_and_last_rest(self):
        rule = Rule(0, 99, 10, 3, 5, ["Q", "ty", "R"])
        for rest, covered in [(2, False), (3, True), (4, True), (5, True), (6, False), (0, False), (9, False)]:
            for number in [rest, 40 + rest, 90 + rest]:
                with self.subTest(number=number):
                    self.assertIs(covers(rule, number), covered)

    def test_below_nought(self):
        rule = Rule(0, 99, 10, 0, 9, ["Q", "ty", "R"])
        self.assertIs(covers(rule, 0), True)
        for number in [-1, -10, -99, -HUGE]:
            with self.subTest(number=number):
                self.assertIs(covers(rule, number), False)

    def test_a_rule_may_cover_nothing(self):
        rule = Rule(11, 12, 10, 5, 5, ["aa"])
        self.assertEqual([number for number in range(30) if covers(rule, number)], [])

    def test_sixty_figures(self):
        rule = Rule(10 ** 59, HUGE, 10 ** 30, 7, 10 ** 30 - 1, ["Q", "aa", "R"])
        self.assertIs(covers(rule, HUGE), True)
        self.assertIs(covers(rule, HUGE + 1), False)
        self.assertIs(covers(rule, 10 ** 59), False)
        self.assertIs(covers(rule, 10 ** 59 + 6), False)
        self.assertIs(covers(rule, 10 ** 59 + 7), True)
        self.assertIs(covers(rule, 10 ** 59 - 1), False)


class PartsTest(unittest.TestCase):

    def test_each_sign(self):
        expected = {"Q": 4, "N": 5, "W": 40, "U": 50, "R": 7, "K": 3}
        for sign in SIGNS:
            with self.subTest(sign=sign):
                rule = Rule(40, 49, 10, 7, 7, ["aa", sign])
                self.assertEqual(parts_of(rule, 47), {sign: expected[sign]})

    def test_all_signs(self):
        rule = Rule(0, 99, 20, 0, 19, ["aa", "K", "R", "U", "W", "N", "Q"])
        self.assertEqual(parts_of(rule, 78), {"Q": 3, "N": 4, "W": 60, "U": 80, "R": 18, "K": 2})
        self.assertEqual(parts_of(rule, 60), {"Q": 3, "N": 4, "W": 60, "U": 80, "R": 0, "K": 20})
        self.assertEqual(parts_of(rule, 59), {"Q": 2, "N": 3, "W": 40, "U": 60, "R": 19, "K": 1})
        self.assertEqual(parts_of(rule, 0), {"Q": 0, "N": 1, "W": 0, "U": 20, "R": 0, "K": 20})

    def test_no_sign(self):
        self.assertEqual(parts_of(Rule(7, 7, 10, 7, 7, ["seven"]), 7), {})
        self.assertEqual(parts_of(Rule(7, 7, 10, 7, 7, ["aa", "+", "bb"]), 7), {})

    def test_not_covered(self):
        rule = Rule(20, 95, 10, 1, 8, ["Q", "ty", "R"])
        for number in [19, 20, 29, 96, 11, 0, -1, -9, HUGE, -HUGE]:
            with self.subTest(number=number):
                with self.assertRaises(NotCovered):
                    parts_of(rule, number)

    def test_not_covered_of_a_number_too_long_to_be_written(self):
        with self.assertRaises(NotCovered):
            parts_of(Rule(7, 7, 10, 7, 7, ["seven"]), 10 ** 5000)

    def test_the_dict_told_is_the_askers_own(self):
        rule = Rule(0, 99, 10, 0, 9, ["Q", "ty", "R"])
        told = parts_of(rule, 42)
        told["Q"] = 9
        told["K"] = 1
        self.assertEqual(parts_of(rule, 42), {"Q": 4, "R": 2})
        self.assertEqual(told, {"Q": 9, "R": 2, "K": 1})

    def test_sixty_figures(self):
        rule = Rule(0, HUGE, 10 ** 30, 0, 10 ** 30 - 1, ["aa"] + SIGNS)
        half = 10 ** 30
        self.assertEqual(
            parts_of(rule, HUGE),
            {"Q": half - 1, "N": half, "W": HUGE - half + 1, "U": HUGE + 1, "R": half - 1, "K": 1},
        )


class NumbersFromTest(unittest.TestCase):

    def test_each_sign_alone(self):
        parts = {"Q": 4, "N": 5, "W": 40, "U": 50, "R": 7, "K": 3}
        for sign in ["Q", "N", "W", "U"]:
            with self.subTest(sign=sign):
                rule = Rule(0, 99, 10, 7, 7, ["aa", sign])
                self.assertEqual(numbers_from(rule, {sign: parts[sign]}), [47])
        for sign in ["R", "K"]:
            with self.subTest(sign=sign):
                rule = Rule(40, 49, 10, 0, 9, ["aa", sign])
                self.assertEqual(numbers_from(rule, {sign: parts[sign]}), [47])

    def test_several_signs(self):
        rule = Rule(0, 99, 10, 0, 9, ["aa"] + SIGNS)
        self.assertEqual(numbers_from(rule, {"Q": 4, "N": 5, "W": 40, "U": 50, "R": 7, "K": 3}), [47])
        rule = Rule(0, 99, 10, 0, 9, ["aa", "U", "K"])
        self.assertEqual(numbers_from(rule, {"K": 3, "U": 50}), [47])

    def test_a_whole_that_is_none(self):
        for sign in ["W", "U"]:
            rule = Rule(0, 99, 10, 0, 0, [sign, "aa"])
            for part in [1, 39, 41, 49, 51, 99]:
                with self.subTest(sign=sign, part=part):
                    self.assertEqual(numbers_from(rule, {sign: part}), [])

    def test_a_rest_that_is_none(self):
        rule = Rule(0, 99, 10, 0, 9, ["Q", "aa", "R"])
        self.assertEqual(numbers_from(rule, {"Q": 4, "R": 9}), [49])
        self.assertEqual(numbers_from(rule, {"Q": 4, "R": 0}), [40])
        for rest in [10, 11, -1, -10]:
            with self.subTest(rest=rest):
                self.assertEqual(numbers_from(rule, {"Q": 4, "R": rest}), [])

    def test_a_lack_that_is_none(self):
        rule = Rule(0, 99, 10, 0, 9, ["Q", "aa", "K"])
        self.assertEqual(numbers_from(rule, {"Q": 4, "K": 10}), [40])
        self.assertEqual(numbers_from(rule, {"Q": 4, "K": 1}), [49])
        for lack in [0, 11, -1, -10]:
            with self.subTest(lack=lack):
                self.assertEqual(numbers_from(rule, {"Q": 4, "K": lack}), [])

    def test_parts_that_contradict_one_another(self):
        rule = Rule(0, 99, 10, 0, 9, ["aa"] + SIGNS)
        right = {"Q": 4, "N": 5, "W": 40, "U": 50, "R": 7, "K": 3}
        others = {"Q": 5, "N": 4, "W": 50, "U": 40, "R": 3, "K": 7}
        for sign in SIGNS:
            with self.subTest(sign=sign):
                self.assertEqual(numbers_from(rule, {**right, sign: others[sign]}), [])

    def test_parts_below_nought(self):
        for sign in ["Q", "N", "W", "U"]:
            rule = Rule(0, 99, 10, 0, 0, ["aa", sign])
            for part in [-1, -10, -20, -HUGE]:
                with self.subTest(sign=sign, part=part):
                    self.assertEqual(numbers_from(rule, {sign: part}), [])
        for sign in ["R", "K"]:
            rule = Rule(0, 9, 10, 0, 9, ["aa", sign])
            for part in [-1, -9, -10, -HUGE]:
                with self.subTest(sign=sign, part=part):
                    self.assertEqual(numbers_from(rule, {sign: part}), [])

    def test_next_whole_at_nought(self):
        self.assertEqual(numbers_from(Rule(0, 99, 10, 0, 0, ["aa", "N"]), {"N": 1}), [0])
        self.assertEqual(numbers_from(Rule(0, 99, 10, 0, 0, ["aa", "N"]), {"N": 0}), [])
        self.assertEqual(numbers_from(Rule(0, 99, 10, 0, 0, ["aa", "U"]), {"U": 10}), [0])
        self.assertEqual(numbers_from(Rule(0, 99, 10, 0, 0, ["aa", "U"]), {"U": 0}), [])

    def test_numbers_that_the_rule_does_not_cover(self):
        rule = Rule(25, 85, 10, 2, 7, ["Q", "ty", "R"])
        told = {
            (2, 4): [], (2, 5): [25], (2, 7): [27], (2, 8): [], (8, 5): [85], (8, 6): [],
            (5, 1): [], (5, 2): [52], (1, 5): [], (9, 5): [], (0, 5): [],
        }
        for (times, rest), numbers in told.items():
            with self.subTest(times=times, rest=rest):
                self.assertEqual(numbers_from(rule, {"Q": times, "R": rest}), numbers)

    def test_no_sign(self):
        self.assertEqual(numbers_from(Rule(7, 7, 10, 7, 7, ["seven"]), {}), [7])
        self.assertEqual(numbers_from(Rule(50, 59, 10, 7, 7, ["aa"]), {}), [57])
        self.assertEqual(numbers_from(Rule(50, 56, 10, 7, 7, ["aa"]), {}), [])
        self.assertEqual(numbers_from(Rule(58, 59, 10, 7, 7, ["aa"]), {}), [])

    def test_bad_parts(self):
        rule = Rule(0, 99, 10, 0, 9, ["Q", "ty", "R"])
        wrong = [
            {}, {"Q": 4}, {"R": 2}, {"Q": 4, "R": 2, "K": 8}, {"Q": 4, "K": 8}, {"W": 40, "R": 2},
            {"Q": 4, "r": 2}, {"Q": 4, "R": 2, "ty": 1}, {"Q": 4, "R": 2, "": 0}, {"Q": 4, "R": 2, "+": 0},
        ]
        for parts in wrong:
            with self.subTest(parts=parts):
                with self.assertRaises(BadParts):
                    numbers_from(rule, parts)

    def test_bad_parts_of_a_rule_without_signs(self):
        rule = Rule(7, 7, 10, 7, 7, ["seven"])
        for sign in SIGNS + ["seven", "+"]:
            with self.subTest(sign=sign):
                with self.assertRaises(BadParts):
                    numbers_from(rule, {sign: 0})

    def test_bad_parts_also_where_the_number_would_be_right(self):
        with self.assertRaises(BadParts):
            numbers_from(Rule(47, 47, 10, 7, 7, ["aa", "Q"]), {"Q": 4, "R": 7})

    def test_the_dict_handed_in_stays(self):
        rule = Rule(0, 99, 10, 0, 9, ["Q", "ty", "R"])
        parts = {"R": 2, "Q": 4}
        self.assertEqual(numbers_from(rule, parts), [42])
        self.assertEqual(list(parts.items()), [("R", 2), ("Q", 4)])
        wrong = {"R": 2}
        with self.assertRaises(BadParts):
            numbers_from(rule, wrong)
        self.assertEqual(wrong, {"R": 2})

    def test_the_list_told_is_the_askers_own(self):
        rule = Rule(0, 99, 10, 0, 9, ["Q", "ty", "R"])
        numbers_from(rule, {"Q": 4, "R": 2}).append(43)
        self.assertEqual(numbers_from(rule, {"Q": 4, "R": 2}), [42])

    def test_sixty_figures(self):
        half = 10 ** 30
        rule = Rule(0, HUGE, half, 0, half - 1, ["U", "aa", "K"])
        self.assertEqual(numbers_from(rule, {"U": 10 ** 60, "K": 1}), [HUGE])
        self.assertEqual(numbers_from(rule, {"U": 10 ** 60, "K": 0}), [])
        self.assertEqual(numbers_from(rule, {"U": 10 ** 60 + half, "K": half}), [])


class ThereAndBackTest(unittest.TestCase):

    def rules(self):
        for low, high in [(0, 6), (3, 3), (2, 17), (5, 9)]:
            for base in [2, 3, 7]:
                for first, last in [(0, 0), (1, 1), (0, base - 1), (1, base - 1)]:
                    for signs in [[], ["Q"], ["U"], ["K"], ["N", "R"], ["W", "K"], ["R", "Q", "U"], SIGNS]:
                        try:
                            yield Rule(low, high, base, first, last, ["aa"] + signs), signs
                        except BadRule:
                            continue

    def test_parts_lead_back_to_their_number_alone(self):
        many = 0
        for rule, signs in self.rules():
            for number in range(-3, 25):
                if covers(rule, number):
                    many += 1
                    parts = parts_of(rule, number)
                    self.assertEqual(sorted(parts), sorted(signs))
                    self.assertEqual(numbers_from(rule, parts), [number])
        self.assertGreater(many, 100)

    def test_numbers_from_tells_what_a_search_finds(self):
        for rule, signs in self.rules():
            if len(signs) in (1, 2):
                for one in range(-4, 22):
                    for other in range(-4, 22) if len(signs) == 2 else [0]:
                        parts = dict(zip(signs, [one, other]))
                        found = [n for n in range(25) if covers(rule, n) and parts_of(rule, n) == parts]
                        self.assertEqual(numbers_from(rule, parts), found)


if __name__ == "__main__":
    unittest.main()
