"""Points 7.1 to 7.3: the looker."""

import unittest

from numbersay.free import free_rows
from numbersay.looking import doubles, first_free, looked, nameless
from numbersay.rules import Rule
from numbersay.tongues import Tongue
from tests.samples import HUGE, chance_tongue, english, german, latin, slow_free_rows, slow_names
from tests.samples import sounding_tongue, word

EDGES = [-HUGE, -5, -2, -1, 0, 1, 2, 5, 19, 20, 21, 39, 40, 41, 90, 91, 299, 300]


def counted(*texts, bound=None):
    """A tongue in which the numbers from nought on are these words, None for no word."""
    rules = [word(number, text) for number, text in enumerate(texts) if text is not None]
    return Tongue(len(texts) - 1 if bound is None else bound, rules)


def slow_looked(names, last):
    for number in range(last + 1):
        if number not in names:
            return ("nameless", number)
        for lesser in range(number):
            if names[lesser] == names[number]:
                return ("same", lesser, number)
    return ("one", max(0, last + 1))


def slow_doubles(all_names, most):
    names = {number: name for number, name in all_names.items() if number <= most}
    bearers = {name: [number for number in names if names[number] == name] for name in names.values()}
    return sorted((name, numbers) for name, numbers in bearers.items() if len(numbers) >= 2)


class LookedTest(unittest.TestCase):

    def test_each_a_name_of_its_own(self):
        tongue = counted("aa", "bb", "cc", "dd")
        self.assertEqual(looked(tongue, 0), ("one", 1))
        self.assertEqual(looked(tongue, 2), ("one", 3))
        self.assertEqual(looked(tongue, 3), ("one", 4))

    def test_most_below_nought(self):
        for tongue in [counted("aa", "bb"), counted(None), Tongue(0, []), english()]:
            for most in [-1, -2, -300, -HUGE]:
                self.assertEqual(looked(tongue, most), ("one", 0))

    def test_at_bound_and_above_it(self):
        tongue = counted("aa", "bb", "cc", "dd", "aa", bound=2)
        for most in [2, 3, 4, 5, 300]:
            self.assertEqual(looked(tongue, most), ("one", 3))
        self.assertEqual(looked(Tongue(0, [word(0, "nil")]), 300), ("one", 1))

    def test_nameless(self):
        self.assertEqual(looked(counted("aa", None, "cc", None), 3), ("nameless", 1))
        self.assertEqual(looked(counted("aa", None, "cc"), 0), ("one", 1))
        self.assertEqual(looked(Tongue(0, []), 0), ("nameless", 0))
        self.assertEqual(looked(Tongue(9, [Rule(0, 9, 10, 0, 9, ["so", "R"])]), 9), ("nameless", 0))

    def test_same(self):
        self.assertEqual(looked(counted("aa", "bb", "cc", "bb", "aa"), 4), ("same", 1, 3))
        self.assertEqual(looked(counted("aa", "bb", "cc", "bb", "aa"), 2), ("one", 3))
        self.assertEqual(looked(counted("aa", "aa"), 1), ("same", 0, 1))
        self.assertEqual(looked(counted("aa", "bb", "bb", "bb"), 3), ("same", 1, 2))

    def test_the_first_of_both(self):
        self.assertEqual(looked(counted("aa", "bb", "aa", None), 3), ("same", 0, 2))
        self.assertEqual(looked(counted("aa", "bb", None, "aa"), 3), ("nameless", 2))

    def test_names_not_rows(self):
        rules = [word(0, "onety"), word(1, "one"), Rule(2, 2, 2, 0, 0, ["Q", "+", "ty"])]
        self.assertEqual(looked(Tongue(2, rules), 2), ("same", 0, 2))
        self.assertEqual(looked(Tongue(2, rules, [("e", "t", "t")]), 2), ("one", 3))

    def test_living(self):
        self.assertEqual(looked(english(), 300), ("one", 301))
        self.assertEqual(looked(german(), 300), ("one", 301))
        self.assertEqual(looked(latin(), 300), slow_looked(slow_names(Tongue(300, latin().rules, latin().melts)), 300))

    def test_against_the_words_of_the_point(self):
        sorts = set()
        for seed in range(150):
            tongue = sounding_tongue(seed)
            names = slow_names(tongue)
            for most in EDGES:
                with self.subTest(seed=seed, most=most):
                    told = looked(tongue, most)
                    self.assertEqual(told, slow_looked(names, min(most, tongue.bound)))
                    self.assertIsInstance(told, tuple)
                    sorts.add(told[0])
        self.assertEqual(sorts, {"nameless", "same", "one"})


class NamelessTest(unittest.TestCase):

    def test_all_that_have_no_name(self):
        tongue = counted("aa", None, "cc", None, None, "aa")
        self.assertEqual(nameless(tongue, 5), [1, 3, 4])
        self.assertEqual(nameless(tongue, 300), [1, 3, 4])
        self.assertEqual(nameless(tongue, 3), [1, 3])
        self.assertEqual(nameless(tongue, 0), [])
        self.assertEqual(nameless(Tongue(0, []), 0), [0])

    def test_most_below_nought(self):
        for most in [-1, -2, -HUGE]:
            self.assertEqual(nameless(Tongue(9, []), most), [])

    def test_not_above_bound(self):
        self.assertEqual(nameless(Tongue(3, []), 300), [0, 1, 2, 3])
        self.assertEqual(nameless(Tongue(HUGE, []), 300), list(range(301)))

    def test_against_the_words_of_the_point(self):
        for seed in range(80):
            tongue = sounding_tongue(seed)
            names = slow_names(tongue)
            for most in EDGES:
                last = min(most, tongue.bound)
                with self.subTest(seed=seed, most=most):
                    self.assertEqual(nameless(tongue, most), [n for n in range(last + 1) if n not in names])

    def test_the_list_told_is_the_askers_own(self):
        tongue = Tongue(3, [])
        nameless(tongue, 3).clear()
        self.assertEqual(nameless(tongue, 3), [0, 1, 2, 3])


class DoublesTest(unittest.TestCase):

    def test_names_of_two_three_and_more(self):
        tongue = counted("zz", "bb", "aa", "bb", "zz", "cc", "zz", None, "aa", "zz")
        self.assertEqual(doubles(tongue, 300), [("aa", [2, 8]), ("bb", [1, 3]), ("zz", [0, 4, 6, 9])])
        self.assertEqual(doubles(tongue, 8), [("aa", [2, 8]), ("bb", [1, 3]), ("zz", [0, 4, 6])])
        self.assertEqual(doubles(tongue, 4), [("bb", [1, 3]), ("zz", [0, 4])])
        self.assertEqual(doubles(tongue, 3), [("bb", [1, 3])])
        self.assertEqual(doubles(tongue, 2), [])

    def test_rising_by_name(self):
        tongue = counted("bb", "bb", "aa", "aa")
        rules = [word(0, "ab"), Rule(1, 1, 2, 1, 1, ["ab", "cd"]), word(2, "ab"), Rule(3, 3, 2, 1, 1, ["ab", "cd"])]
        self.assertEqual(doubles(tongue, 3), [("aa", [2, 3]), ("bb", [0, 1])])
        self.assertEqual(doubles(Tongue(3, rules), 3), [("ab", [0, 2]), ("ab cd", [1, 3])])

    def test_numbers_without_a_name_share_none(self):
        self.assertEqual(doubles(Tongue(9, []), 9), [])

    def test_most_below_nought_and_bound(self):
        tongue = counted("aa", "aa", "aa", bound=1)
        for most in [-1, -HUGE, 0]:
            self.assertEqual(doubles(tongue, most), [])
        for most in [1, 2, 300]:
            self.assertEqual(doubles(tongue, most), [("aa", [0, 1])])

    def test_against_the_words_of_the_point(self):
        several = 0
        for seed in range(80):
            tongue = sounding_tongue(seed)
            names = slow_names(tongue)
            for most in EDGES:
                with self.subTest(seed=seed, most=most):
                    told = doubles(tongue, most)
                    self.assertEqual(told, slow_doubles(names, most))
                    several += any(len(numbers) > 2 for name, numbers in told)
        self.assertGreater(several, 50)

    def test_what_is_told_is_the_askers_own(self):
        tongue = counted("aa", "aa")
        told = doubles(tongue, 1)
        self.assertIsInstance(told[0], tuple)
        told[0][1].append(7)
        told.clear()
        self.assertEqual(doubles(tongue, 1), [("aa", [0, 1])])


class FirstFreeTest(unittest.TestCase):

    def tongue(self, bound=9):
        rules = [word(0, "nil"), word(1, "one"), word(2, "two"), word(2, "two"), word(3, "tri")]
        rules += [Rule(3, 3, 2, 1, 1, ["Q", "pair", "and", "R"]), word(4, "four"), word(4, "aa")]
        return Tongue(bound, rules)

    def test_the_least_number_said_in_two_rows(self):
        self.assertEqual(first_free(self.tongue(), 9, 8), (3, [["one", "pair", "and", "one"], ["tri"]]))
        self.assertEqual(first_free(self.tongue(), 9, 4), (3, [["one", "pair", "and", "one"], ["tri"]]))
        self.assertEqual(first_free(self.tongue(), 9, 3), (4, [["aa"], ["four"]]))
        self.assertEqual(first_free(self.tongue(), 9, 1), (4, [["aa"], ["four"]]))

    def test_one_row_by_two_rules_is_one(self):
        self.assertIsNone(first_free(self.tongue(), 2, 8))

    def test_words_below_one(self):
        for words in [0, -1, -8, -HUGE]:
            self.assertIsNone(first_free(self.tongue(), 9, words))

    def test_most(self):
        for most in [-1, -HUGE, 0, 2]:
            self.assertIsNone(first_free(self.tongue(), most, 8))
        self.assertEqual(first_free(self.tongue(), 3, 8)[0], 3)
        self.assertIsNone(first_free(self.tongue(), 3, 3))
        self.assertEqual(first_free(self.tongue(), 4, 3)[0], 4)
        self.assertEqual(first_free(self.tongue(), 300, 3)[0], 4)

    def test_bound(self):
        self.assertEqual(first_free(self.tongue(3), 300, 8)[0], 3)
        self.assertIsNone(first_free(self.tongue(2), 300, 8))
        self.assertIsNone(first_free(self.tongue(3), 300, 3))

    def test_nought(self):
        tongue = Tongue(0, [word(0, "nil"), word(0, "null")])
        self.assertEqual(first_free(tongue, 0, 1), (0, [["nil"], ["null"]]))

    def test_against_the_words_of_the_point(self):
        found = 0
        for seed in range(60):
            tongue = chance_tongue(seed, 20)
            for words in [0, 1, 2, 3, 4]:
                rows = {number: slow_free_rows(tongue, number, words) for number in range(21)}
                for most in [-1, 0, 5, 20, 300]:
                    numbers = [number for number in rows if number <= most and len(rows[number]) >= 2]
                    told = first_free(tongue, most, words)
                    with self.subTest(seed=seed, words=words, most=most):
                        if not numbers:
                            self.assertIsNone(told)
                        else:
                            self.assertEqual(told, (numbers[0], sorted(list(row) for row in rows[numbers[0]])))
                            self.assertEqual(told[1], free_rows(tongue, numbers[0], words))
                            self.assertIsInstance(told, tuple)
                            found += 1
        self.assertGreater(found, 200)

    def test_what_is_told_is_the_askers_own(self):
        tongue = self.tongue()
        rows = first_free(tongue, 9, 8)[1]
        rows[0].clear()
        rows.pop()
        self.assertEqual(first_free(tongue, 9, 8)[1], [["one", "pair", "and", "one"], ["tri"]])


if __name__ == "__main__":
    unittest.main()
