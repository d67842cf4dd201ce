"""Point 7.4: counting on."""

import unittest

from numbersay.counting import count_on
from numbersay.errors import NoName, SayError, Unclear
from numbersay.rules import Rule
from numbersay.sounds import name_of
from numbersay.tongues import Tongue
from tests.samples import HUGE, english, german, living, slow_names, sounding_tongue, word


def small():
    """From 0 to 6 without 5; 2 and 6 have one name."""
    texts = {0: "nil", 1: "one", 2: "two", 3: "tri", 4: "four", 6: "two"}
    return Tongue(9, [word(number, text) for number, text in texts.items()])


class CountOnTest(unittest.TestCase):

    def refused(self, refusal, *told):
        with self.subTest(told=told[1:]):
            with self.assertRaises(refusal) as caught:
                count_on(*told)
            self.assertIs(type(caught.exception), refusal)
            self.assertIsInstance(caught.exception, SayError)
            self.assertIsInstance(caught.exception, ValueError)

    def test_the_next_numbers_in_order(self):
        self.assertEqual(count_on(small(), "nil", 1), ["one"])
        self.assertEqual(count_on(small(), "nil", 3), ["one", "two", "tri"])
        self.assertEqual(count_on(english(), "nineteen", 3), ["twenty", "twentyone", "twentytwo"])
        self.assertEqual(count_on(german(), "neununddreissig", 2), ["vierzig", "einundvierzig"])

    def test_many_below_nought_is_as_nought(self):
        for many in [0, -1, -2, -300, -HUGE]:
            self.assertEqual(count_on(small(), "one", many), [])

    def test_it_ends_ahead_of_the_first_that_has_no_name(self):
        self.assertEqual(count_on(small(), "one", 3), ["two", "tri", "four"])
        self.assertEqual(count_on(small(), "one", 4), ["two", "tri", "four"])
        self.assertEqual(count_on(small(), "one", 300), ["two", "tri", "four"])
        self.assertEqual(count_on(small(), "four", 300), [])

    def test_past_the_last_number(self):
        tongue = Tongue(2, [word(number, text) for number, text in enumerate(["aa", "bb", "cc", "dd"])])
        self.assertEqual(count_on(tongue, "aa", 300), ["bb", "cc"])
        self.assertEqual(count_on(tongue, "cc", 300), [])
        self.assertEqual(count_on(tongue, "cc", 0), [])

    def test_three_hundred(self):
        names = count_on(english(), "zero", 300)
        self.assertEqual(names, [name_of(english(), number) for number in range(1, 301)])

    def test_great_numbers(self):
        tongue = english()
        name = name_of(tongue, 10 ** 59)
        self.assertEqual(count_on(tongue, name, 2), [f"{name} and one", f"{name} and two"])

    def test_names_alike_on_the_way(self):
        tongue = Tongue(9, [word(number, text) for number, text in enumerate(["aa", "bb", "cc", "bb", "cc"])])
        self.assertEqual(count_on(tongue, "aa", 4), ["bb", "cc", "bb", "cc"])

    def test_no_name(self):
        for name in ["", " ", "five", "dd", "One", "one ", " one", "one one", "1", "on", "ones", "+", "one+two"]:
            for many in [-1, 0, 1, 300]:
                self.refused(NoName, small(), name, many)
        self.refused(NoName, Tongue(9, []), "aa", 1)

    def test_the_name_of_a_number_above_bound(self):
        tongue = Tongue(1, [word(number, text) for number, text in enumerate(["aa", "bb", "cc"])])
        self.refused(NoName, tongue, "cc", 1)
        self.assertEqual(count_on(tongue, "bb", 1), [])

    def test_unclear(self):
        for many in [-1, 0, 1, 300]:
            self.refused(Unclear, small(), "two", many)
        self.refused(Unclear, Tongue(9, [word(number, "aa") for number in range(5)]), "aa", 1)
        rules = [word(1, "one"), Rule(11, 11, 10, 1, 1, ["R", "+", "ty"]), word(12, "onety")]
        self.refused(Unclear, Tongue(99, rules), "onety", 1)

    def test_against_the_words_of_the_point(self):
        counts = {list: 0, NoName: 0, Unclear: 0}
        for seed in range(60):
            tongue = sounding_tongue(seed)
            names = slow_names(tongue)
            for name in sorted(set(names.values())) + ["zz"]:
                numbers = [number for number in names if names[number] == name]
                if len(numbers) != 1:
                    refusal = Unclear if numbers else NoName
                    self.refused(refusal, tongue, name, 3)
                    counts[refusal] += 1
                else:
                    behind = []
                    while len(behind) < 7 and numbers[0] + len(behind) + 1 in names:
                        behind.append(names[numbers[0] + len(behind) + 1])
                    self.assertEqual(count_on(tongue, name, 7), behind)
                    counts[list] += 1
        self.assertTrue(all(count >= 50 for count in counts.values()))

    def test_the_list_told_is_the_askers_own(self):
        tongue = small()
        told = count_on(tongue, "nil", 2)
        told.append("more")
        self.assertEqual(count_on(tongue, "nil", 2), ["one", "two"])

    def test_living(self):
        for tongue in living():
            self.assertEqual(count_on(tongue, name_of(tongue, 7), 5), [name_of(tongue, n) for n in range(8, 13)])


if __name__ == "__main__":
    unittest.main()
