"""Point 1.4: tongues; and of point 3.2 what a melt is."""

import unittest

from numbersay.errors import BadBound, BadMelt, Twice
from numbersay.rules import Rule
from numbersay.tongues import Tongue, rule_for, words_of

HUGE = 10 ** 60 - 1


class Titled:
    """Stands for a kind, of which a tongue reads only the title."""

    def __init__(self, title):
        self.title = title


def some_rules():
    return [
        Rule(0, 0, 2, 0, 0, ["nil"]),
        Rule(3, 5, 10, 3, 5, ["few", "R"]),
        Rule(5, 7, 10, 5, 7, ["many", "+", "R"]),
        Rule(20, 99, 10, 1, 9, ["Q", "ty", "+", "R"]),
        Rule(20, 99, 10, 0, 9, ["Q", "ty", "nil", "R"]),
    ]


class TongueMadeTest(unittest.TestCase):

    def test_without_melts_and_kinds(self):
        rules = some_rules()
        tongue = Tongue(99, rules)
        self.assertEqual(tongue.bound, 99)
        self.assertEqual(tongue.rules, rules)
        self.assertEqual(tongue.melts, [])
        self.assertEqual(tongue.kinds, [])

    def test_by_place(self):
        rules = some_rules()
        melts = [("a", "b", "cd")]
        kinds = [Titled("which"), Titled("part")]
        tongue = Tongue(99, rules, melts, kinds)
        self.assertEqual((tongue.bound, tongue.rules), (99, rules))
        self.assertEqual(tongue.melts, [("a", "b", "cd")])
        self.assertEqual([kind.title for kind in tongue.kinds], ["which", "part"])

    def test_by_name(self):
        rules = some_rules()
        kinds = [Titled("which")]
        tongue = Tongue(kinds=kinds, melts=[("a", "b", "cd")], rules=rules, bound=7)
        self.assertEqual((tongue.bound, tongue.rules), (7, rules))
        self.assertEqual((tongue.melts, tongue.kinds), ([("a", "b", "cd")], kinds))

    def test_melts_or_kinds_alone(self):
        self.assertEqual(Tongue(1, [], [("a", "b", "cd")]).kinds, [])
        tongue = Tongue(1, [], kinds=[Titled("which")])
        self.assertEqual(tongue.melts, [])
        self.assertEqual(len(tongue.kinds), 1)

    def test_none_for_none(self):
        for tongue in [Tongue(1, [], None, None), Tongue(1, [], melts=None), Tongue(1, [], kinds=None)]:
            self.assertEqual((tongue.melts, tongue.kinds), ([], []))

    def test_empty_lists(self):
        tongue = Tongue(0, [], [], [])
        self.assertEqual((tongue.bound, tongue.rules, tongue.melts, tongue.kinds), (0, [], [], []))

    def test_fields_are_lists_of_its_own(self):
        rules, melts, kinds = some_rules(), [("a", "b", "cd")], [Titled("which")]
        tongue = Tongue(99, rules, melts, kinds)
        self.assertEqual((len(rules), melts, len(kinds)), (5, [("a", "b", "cd")], 1))
        del rules[0]
        melts.append(("e", "f", "gh"))
        kinds.clear()
        self.assertEqual(len(tongue.rules), 5)
        self.assertEqual(tongue.melts, [("a", "b", "cd")])
        self.assertEqual(len(tongue.kinds), 1)
        self.assertEqual(rule_for(tongue, 0), 0)
        self.assertEqual(words_of(tongue), ["few", "many", "nil", "ty"])
        for field in [tongue.rules, tongue.melts, tongue.kinds]:
            self.assertIsInstance(field, list)

    def test_tongues_share_no_lists(self):
        one, other = Tongue(1, []), Tongue(1, [])
        one.melts.append(("a", "b", "cd"))
        one.kinds.append(Titled("which"))
        self.assertEqual((other.melts, other.kinds), ([], []))
        fresh = Tongue(1, [])
        self.assertEqual((fresh.melts, fresh.kinds), ([], []))

    def test_bound(self):
        self.assertEqual(Tongue(0, []).bound, 0)
        self.assertEqual(Tongue(HUGE, []).bound, HUGE)
        for bound in [-1, -2, -HUGE]:
            with self.subTest(bound=bound):
                with self.assertRaises(BadBound):
                    Tongue(bound, [])

    def test_twice(self):
        with self.assertRaises(Twice) as caught:
            Tongue(1, [], None, [Titled("which"), Titled("which")])
        self.assertEqual(caught.exception.title, "which")
        with self.assertRaises(Twice):
            Tongue(1, [], None, [Titled("which"), Titled("part"), Titled("which")])
        with self.assertRaises(Twice):
            Tongue(1, [], None, [Titled("part"), Titled("which"), Titled("which")])

    def test_one_kind_handed_in_twice(self):
        kind = Titled("which")
        with self.assertRaises(Twice):
            Tongue(1, [], None, [kind, kind])

    def test_titles_that_are_nearly_alike(self):
        kinds = [Titled(title) for title in ["a", "aa", "ab", "b", "whic", "which"]]
        self.assertEqual(len(Tongue(1, [], None, kinds).kinds), 6)

    def test_the_first_refusal_that_is_due(self):
        bad_melts = [("", "b", "cd")]
        twins = [Titled("which"), Titled("which")]
        with self.assertRaises(BadBound):
            Tongue(-1, [], bad_melts, twins)
        with self.assertRaises(BadBound):
            Tongue(-1, [], bad_melts)
        with self.assertRaises(BadBound):
            Tongue(-1, [], None, twins)
        with self.assertRaises(BadMelt):
            Tongue(0, [], bad_melts, twins)


class MeltTest(unittest.TestCase):

    def made(self, *melts):
        with self.subTest(melts=melts):
            self.assertEqual(Tongue(1, [], list(melts)).melts, list(melts))

    def refused(self, *melts):
        with self.subTest(melts=melts):
            with self.assertRaises(BadMelt):
                Tongue(1, [], list(melts))

    def test_ahead(self):
        self.refused(("", "b", "cd"))
        self.made(("a", "b", "cd"))
        self.made(("aaa", "b", "cccc"))
        self.refused(("aaaa", "b", "cccccc"))

    def test_behind(self):
        self.refused(("a", "", "cd"))
        self.made(("a", "b", "cd"))
        self.made(("a", "bbb", "cccc"))
        self.refused(("a", "bbbb", "cccccc"))

    def test_made(self):
        self.refused(("a", "b", ""))
        self.made(("a", "b", "c"))
        self.made(("a", "b", "cccccc"))
        self.refused(("a", "b", "ccccccc"))
        self.made(("aaa", "bbb", "cccccc"))
        self.refused(("aaa", "bbb", "ccccccc"))

    def test_made_beside_the_other_two(self):
        for ahead in ["a", "aa", "aaa"]:
            for behind in ["b", "bb", "bbb"]:
                least = len(ahead) + len(behind) - 1
                self.made((ahead, behind, "c" * least))
                self.made((ahead, behind, "c" * (least + 1)))
                self.refused((ahead, behind, "c" * (least - 1)))

    def test_other_signs_than_small_letters(self):
        for text in ["A", "Z", "1", " ", "+", "a ", " a", "aB", "a1", "`", "{", "\u00e4", "a\n"]:
            self.refused((text, "b", "cccc"))
            self.refused(("a", text, "cccc"))
            self.refused(("a", "b", text + "cc"))

    def test_first_and_last_letters(self):
        self.made(("az", "za", "azza"))

    def test_one_letter_each_is_enough(self):
        self.made(("a", "a", "a"))

    def test_what_is_no_tuple_of_three_texts(self):
        self.refused(())
        self.refused(("a", "b"))
        self.refused(("a", "b", "cd", "e"))
        self.refused(["a", "b", "cd"])
        self.refused("abc")
        self.refused(None)
        self.refused((None, "b", "cd"))
        self.refused(("a", 2, "cd"))
        self.refused(("a", "b", ["c", "d"]))

    def test_each_melt_is_looked_at(self):
        good, bad = ("a", "b", "cd"), ("a", "b", "")
        self.refused(bad, good, good)
        self.refused(good, bad, good)
        self.refused(good, good, bad)

    def test_melts_may_be_alike(self):
        self.made(("a", "b", "cd"), ("a", "b", "cd"), ("a", "b", "e"))


class RuleForTest(unittest.TestCase):

    def test_ends_of_rules(self):
        tongue = Tongue(99, some_rules())
        places = {0: 0, 1: None, 2: None, 3: 1, 4: 1, 6: 2, 7: 2, 8: None, 19: None, 21: 3, 99: 3}
        for number, place in places.items():
            with self.subTest(number=number):
                self.assertEqual(rule_for(tongue, number), place)

    def test_the_first_of_two(self):
        rules = some_rules()
        tongue = Tongue(99, rules)
        self.assertEqual(rule_for(tongue, 5), 1)
        self.assertEqual(rule_for(tongue, 42), 3)
        self.assertEqual(rule_for(tongue, 40), 4)
        self.assertEqual(rule_for(Tongue(99, rules[::-1]), 42), 0)
        self.assertEqual(rule_for(Tongue(99, rules[::-1]), 5), 2)

    def test_below_nought_and_above_bound(self):
        tongue = Tongue(42, some_rules())
        self.assertEqual(rule_for(tongue, 42), 3)
        for number in [43, 99, 100, HUGE, -1, -20, -42, -HUGE]:
            with self.subTest(number=number):
                self.assertIsNone(rule_for(tongue, number))

    def test_bound_of_nought(self):
        tongue = Tongue(0, some_rules())
        self.assertEqual(rule_for(tongue, 0), 0)
        self.assertIsNone(rule_for(tongue, 3))

    def test_no_rules(self):
        self.assertIsNone(rule_for(Tongue(9, []), 0))

    def test_sixty_figures(self):
        tongue = Tongue(HUGE, [Rule(0, 9, 10, 0, 9, ["aa", "R"]), Rule(10, HUGE, 10, 0, 9, ["Q", "aa", "R"])])
        self.assertEqual(rule_for(tongue, HUGE), 1)
        self.assertIsNone(rule_for(tongue, HUGE + 1))


class WordsOfTest(unittest.TestCase):

    def test_rising_and_each_once(self):
        rules = [
            Rule(1, 1, 2, 1, 1, ["zz", "aa", "zz"]),
            Rule(20, 99, 10, 0, 9, ["Q", "mm", "+", "aa", "R"]),
            Rule(0, 99, 10, 0, 9, ["mm", "W", "+", "U", "abc", "N", "K"]),
        ]
        self.assertEqual(words_of(Tongue(99, rules)), ["aa", "abc", "mm", "zz"])

    def test_rules_above_bound_count_too(self):
        self.assertEqual(words_of(Tongue(0, some_rules())), ["few", "many", "nil", "ty"])

    def test_melts_and_kinds_give_no_words(self):
        tongue = Tongue(9, [Rule(1, 1, 2, 1, 1, ["one"])], [("ab", "cd", "efg")], [Titled("which")])
        self.assertEqual(words_of(tongue), ["one"])

    def test_no_rules(self):
        self.assertEqual(words_of(Tongue(9, [])), [])

    def test_the_list_told_is_the_askers_own(self):
        tongue = Tongue(99, some_rules())
        told = words_of(tongue)
        told.append("more")
        self.assertEqual(words_of(tongue), ["few", "many", "nil", "ty"])
        self.assertIsNot(words_of(tongue), words_of(tongue))


if __name__ == "__main__":
    unittest.main()
