"""Points 6.1 to 6.3: kinds; and of point 1.4 the kinds of a tongue."""

import random
import unittest

from numbersay.errors import BadBound, BadKind, BadMelt, BadRow, NoKind, SayError, Twice
from numbersay.kinds import Kind, kind_name, kind_numbers, kind_row, share_name, shares_in
from numbersay.rules import Rule
from numbersay.sounds import name_of, said
from numbersay.tongues import Tongue, words_of
from tests.samples import HUGE, altered, bearing, english, german, latin, living, slow_kind_names, slow_names
from tests.samples import sounding_tongue, telling_numbers, with_kinds, word

ORDINALS = [("one", "first"), ("two", "second"), ("three", "third"), ("five", "fifth")]


def which():
    return Kind("which", "th", ORDINALS)


def part():
    return Kind("part", "th", ORDINALS[2:] + [("two", "half"), ("four", "quarter")])


def ordered_english():
    """english() with the kinds "which" and "part"; "twentyth" melts to "twentieth", "eightth" to "eighth"."""
    plain = english()
    return Tongue(plain.bound, plain.rules, plain.melts + [("y", "th", "ieth")], [which(), part()])


def tens(bound=HUGE):
    """1 is "one", and a nought behind a number is one more "ten"."""
    kinds = [Kind("which", "th", []), Kind("turned", "th", [("ten", "tenth")])]
    return Tongue(bound, [word(1, "one"), Rule(1, HUGE, 10, 0, 0, ["Q", "ten"])], None, kinds)


class KindMadeTest(unittest.TestCase):

    def made(self, title, ending, turns):
        with self.subTest(title=title, ending=ending, turns=turns):
            kind = Kind(title, ending, turns)
            self.assertEqual((kind.title, kind.ending, kind.turns), (title, ending, turns))
            self.assertIsInstance(kind.turns, list)

    def refused(self, title, ending, turns):
        with self.subTest(title=title, ending=ending, turns=turns):
            with self.assertRaises(BadKind) as caught:
                Kind(title, ending, turns)
            self.assertIs(type(caught.exception), BadKind)
            self.assertIsInstance(caught.exception, SayError)
            self.assertIsInstance(caught.exception, ValueError)

    def test_by_name(self):
        kind = Kind(turns=[("one", "first")], ending="th", title="which")
        self.assertEqual((kind.title, kind.ending, kind.turns), ("which", "th", [("one", "first")]))

    def test_titles(self):
        self.refused("", "th", [])
        self.made("a", "th", [])
        self.made("abcdefgh", "th", [])
        self.refused("abcdefghi", "th", [])
        self.made("az", "th", [])
        for title in ["A", "Which", "whicH", "wh ich", " which", "which ", "which1", "wh-ch", "+", "`", "{", "a\n"]:
            self.refused(title, "th", [])
        self.refused(None, "th", [])

    def test_endings(self):
        self.refused("which", "", [])
        self.refused("which", "t", [])
        self.made("which", "th", [])
        self.made("which", "abcdefghij", [])
        self.refused("which", "abcdefghijk", [])
        for ending in ["Th", "+", "+th", "t h", "th ", "t1", "Q", None]:
            self.refused("which", ending, [])

    def test_turns(self):
        self.made("which", "th", [])
        self.made("which", "th", [("one", "first")])
        self.made("which", "th", [("one", "first"), ("two", "second")])
        self.made("which", "th", [("one", "same"), ("two", "same")])
        self.made("which", "th", [("two", "one"), ("one", "two")])
        self.made("which", "th", [("one", "one")])
        self.made("which", "th", [("w" + letter, letter + "w") for letter in "abcdefghijkl"])

    def test_turns_with_something_that_is_no_word(self):
        for text in ["", "a", "abcdefghijk", "One", "+", "Q", "o e", "one ", "o1", None, 7]:
            self.refused("which", "th", [(text, "first")])
            self.refused("which", "th", [("one", text)])
            self.refused("which", "th", [("two", "second"), ("one", text)])
            self.refused("which", "th", [(text, "first"), ("two", "second")])

    def test_one_first_word_twice(self):
        self.refused("which", "th", [("one", "first"), ("one", "other")])
        self.refused("which", "th", [("one", "first"), ("one", "first")])
        self.refused("which", "th", [("one", "one"), ("two", "second"), ("one", "first")])

    def test_what_is_no_pair(self):
        for pair in [(), ("one",), ("one", "two", "three"), "ab", ["one", "first"], None]:
            self.refused("which", "th", [pair])
            self.refused("which", "th", [("two", "second"), pair])

    def test_the_list_handed_in_stays_and_may_be_changed_afterwards(self):
        turns = [("one", "first")]
        kind = Kind("which", "th", turns)
        self.assertEqual(turns, [("one", "first")])
        turns.append(("two", "second"))
        turns[0] = ("one", "other")
        self.assertEqual(kind.turns, [("one", "first")])
        tongue = Tongue(9, [word(1, "one"), word(2, "two")], None, [kind])
        self.assertEqual(kind_name(tongue, "which", 1), "first")
        self.assertEqual(kind_name(tongue, "which", 2), "twoth")
        self.assertEqual(kind_numbers(tongue, "which", "other"), [])


class KindsOfTonguesTest(unittest.TestCase):

    def test_fields(self):
        kinds = [which(), part()]
        tongue = Tongue(9, [], None, kinds)
        self.assertEqual(tongue.kinds, kinds)
        self.assertIsNot(tongue.kinds, kinds)
        kinds.clear()
        self.assertEqual([kind.title for kind in tongue.kinds], ["which", "part"])
        self.assertEqual(kind_row(tongue, "which", ["one"]), ["first"])

    def test_twice(self):
        for kinds in [[which(), which()], [which(), part(), Kind("which", "ish", [])], [part(), which(), which()]]:
            with self.assertRaises(Twice) as caught:
                Tongue(9, [], None, kinds)
            self.assertIs(type(caught.exception), Twice)
            self.assertIsInstance(caught.exception, SayError)
        with self.assertRaises(BadBound):
            Tongue(-1, [], None, [which(), which()])
        with self.assertRaises(BadMelt):
            Tongue(9, [], [("a", "b", "")], [which(), which()])

    def test_five_kinds(self):
        kinds = [Kind(title, "th", []) for title in ["a", "aa", "ab", "b", "abcdefgh"]]
        self.assertEqual(Tongue(9, [], None, kinds).kinds, kinds)

    def test_the_words_of_kinds_are_not_the_tongues(self):
        self.assertEqual(words_of(Tongue(9, [word(1, "one")], None, [which()])), ["one"])


class KindRowTest(unittest.TestCase):

    def test_a_last_word_that_is_turned(self):
        tongue = ordered_english()
        self.assertEqual(kind_row(tongue, "which", ["one"]), ["first"])
        self.assertEqual(kind_row(tongue, "which", ["four", "+", "ty", "+", "two"]), ["four", "+", "ty", "+", "second"])
        self.assertEqual(kind_row(tongue, "part", ["one", "hundred", "two"]), ["one", "hundred", "half"])

    def test_a_last_word_that_is_not(self):
        tongue = ordered_english()
        self.assertEqual(kind_row(tongue, "which", ["four"]), ["four", "+", "th"])
        self.assertEqual(kind_row(tongue, "part", ["four"]), ["quarter"])
        self.assertEqual(kind_row(tongue, "which", ["one", "two", "ty"]), ["one", "two", "ty", "+", "th"])
        self.assertEqual(kind_row(tongue, "part", ["one"]), ["one", "+", "th"])

    def test_a_word_turned_into_itself(self):
        tongue = with_kinds(english(), Kind("which", "th", [("one", "one"), ("two", "three"), ("three", "two")]))
        self.assertEqual(kind_row(tongue, "which", ["one"]), ["one"])
        self.assertEqual(kind_row(tongue, "which", ["one", "two"]), ["one", "three"])
        self.assertEqual(kind_row(tongue, "which", ["two", "three"]), ["two", "two"])

    def test_words_that_the_tongue_has_not(self):
        tongue = Tongue(9, [], None, [Kind("which", "th", [("aa", "bb")])])
        self.assertEqual(kind_row(tongue, "which", ["aa"]), ["bb"])
        self.assertEqual(kind_row(tongue, "which", ["cc", "+", "dd"]), ["cc", "+", "dd", "+", "th"])

    def test_refused(self):
        tongue = ordered_english()
        rows = [[], ["+"], ["+", "one"], ["one", "+"], ["one", "+", "+", "two"], ["a"], ["One"], ["one two"]]
        for row in rows + [["one", ""]]:
            with self.subTest(row=row):
                with self.assertRaises(BadRow) as caught:
                    kind_row(tongue, "which", row)
                self.assertIs(type(caught.exception), BadRow)
                with self.assertRaises(NoKind):
                    kind_row(tongue, "other", row)

    def test_a_row_of_forty_one_words(self):
        self.assertEqual(kind_row(tens(), "which", ["one"] * 41), ["one"] * 41 + ["+", "th"])

    def test_the_row_handed_in_stays_and_the_one_told_is_the_askers_own(self):
        tongue = ordered_english()
        for row, told in [(["one", "two"], ["one", "second"]), (["one", "four"], ["one", "four", "+", "th"])]:
            before = list(row)
            turned = kind_row(tongue, "which", row)
            self.assertEqual((row, turned), (before, told))
            turned.clear()
            self.assertEqual((row, kind_row(tongue, "which", row)), (before, told))
            row.append("more")
            self.assertEqual(kind_row(tongue, "which", before), told)


class KindNameTest(unittest.TestCase):

    def test_living(self):
        tongue = ordered_english()
        names = {
            0: "zeroth", 1: "first", 2: "second", 4: "fourth", 5: "fifth", 8: "eighth", 14: "fourteenth",
            20: "twentieth", 42: "fortysecond", 100: "one hundredth", 241: "two hundred and fortyfirst",
        }
        for number, name in names.items():
            with self.subTest(number=number):
                self.assertEqual(kind_name(tongue, "which", number), name)
        self.assertEqual(kind_name(tongue, "part", 4), "quarter")
        self.assertEqual(kind_name(tongue, "part", 22), "twentyhalf")

    def test_sounds_melt_at_the_ending(self):
        rules = [word(8, "eight"), word(9, "nine"), Rule(18, 18, 10, 8, 8, ["ten", "+", "R"])]
        tongue = Tongue(99, rules, [("t", "t", "t"), ("n", "n", "mm")], [Kind("which", "th", [("nine", "ninth")])])
        self.assertEqual(kind_name(tongue, "which", 8), "eighth")
        self.assertEqual(kind_name(tongue, "which", 18), "teneighth")
        self.assertEqual(kind_name(tongue, "which", 9), "ninth")

    def test_sounds_melt_ahead_of_a_turned_word(self):
        rules = [word(9, "nine"), Rule(19, 19, 10, 9, 9, ["ten", "+", "R"])]
        tongue = Tongue(99, rules, [("n", "ni", "mmi"), ("n", "no", "ngo")], [Kind("which", "th", [("nine", "noth")])])
        self.assertEqual(name_of(tongue, 19), "temmine")
        self.assertEqual(kind_name(tongue, "which", 19), "tengoth")

    def test_none_where_there_is_no_row(self):
        tongue = Tongue(5, [word(1, "one"), word(6, "six"), Rule(2, 3, 10, 2, 3, ["so", "R"])], None, [which()])
        for number in [-1, 0, 2, 3, 4, 6, HUGE, -HUGE]:
            with self.subTest(number=number):
                self.assertIsNone(kind_name(tongue, "which", number))
        self.assertEqual(kind_name(tongue, "which", 1), "first")

    def test_exactly_forty_words_and_forty_one(self):
        self.assertEqual(kind_name(tens(), "which", 10 ** 39), "one" + " ten" * 39 + "th")
        self.assertEqual(kind_name(tens(), "turned", 10 ** 39), "one" + " ten" * 38 + " tenth")
        self.assertIsNone(kind_name(tens(), "which", 10 ** 40))
        self.assertIsNone(kind_name(tens(), "turned", 10 ** 40))

    def test_the_text_of_the_kinds_row(self):
        for seed in range(20):
            tongue = sounding_tongue(seed)
            for kind in tongue.kinds:
                names = slow_kind_names(tongue, kind)
                for number in range(-1, tongue.bound + 2):
                    self.assertEqual(kind_name(tongue, kind.title, number), names.get(number))


class KindNumbersTest(unittest.TestCase):

    def test_living(self):
        tongue = ordered_english()
        for text, numbers in [
            ("first", [1]), ("fourth", [4]), ("twentieth", [20]), ("fortysecond", [42]), ("one hundredth", [100]),
            ("two hundred and first", [201]), ("one hundred thousand quint myriadth", [10 ** 59]),
        ]:
            with self.subTest(text=text):
                self.assertEqual(kind_numbers(tongue, "which", text), numbers)

    def test_texts_of_no_number(self):
        tongue = ordered_english()
        for text in [
            "", " ", "  ", "one", "two", "oneth", "twoth", "th", "firstth", "twenty", "twentyth", " first", "first ",
            "one  hundredth", "onehundredth", "one hundred th", "first hundred", "fourt", "fourthh", "fourtg", "First",
            "four+th", "first first", "fortyfour", "second hundredth",
        ]:
            with self.subTest(text=text):
                self.assertEqual(kind_numbers(tongue, "which", text), [])

    def test_just_the_kind_that_was_asked(self):
        tongue = ordered_english()
        self.assertEqual(kind_numbers(tongue, "part", "quarter"), [4])
        self.assertEqual(kind_numbers(tongue, "part", "fourth"), [])
        self.assertEqual(kind_numbers(tongue, "which", "quarter"), [])
        self.assertEqual(kind_numbers(tongue, "part", "oneth"), [1])

    def test_several_numbers(self):
        kind = Kind("which", "th", [("two", "oneth"), ("four", "same"), ("three", "same")])
        rules = [word(1, "one"), word(2, "two"), word(3, "three"), word(4, "four"), word(5, "one")]
        tongue = Tongue(9, rules, None, [kind])
        self.assertEqual(kind_numbers(tongue, "which", "oneth"), [1, 2, 5])
        self.assertEqual(kind_numbers(tongue, "which", "same"), [3, 4])

    def test_turned_words_and_the_ending_are_words_of_the_tongue_too(self):
        kind = Kind("which", "one", [("one", "two"), ("two", "one")])
        rules = [word(1, "one"), word(2, "two"), word(3, "oo"), Rule(10, 99, 10, 1, 9, ["Q", "+", "one", "+", "R"])]
        tongue = Tongue(99, rules, None, [kind])
        self.assertEqual(kind_numbers(tongue, "which", "one"), [2])
        self.assertEqual(kind_numbers(tongue, "which", "two"), [1])
        self.assertEqual(kind_numbers(tongue, "which", "ooone"), [3])
        self.assertEqual(kind_numbers(tongue, "which", "oneonetwo"), [11])
        self.assertEqual(kind_numbers(tongue, "which", "twooneooone"), [23])

    def test_the_longest_words_with_the_longest_melts(self):
        rules = [Rule(1, 1, 2, 1, 1, ["xa", "+", "bcdefghija"]), Rule(2, 2, 2, 0, 0, ["xa", "+", "bcdefghijk"])]
        kind = Kind("which", "bcdefghijz", [("bcdefghijk", "bqqqqqqqqq")])
        tongue = Tongue(9, rules, [("a", "b", "mmmmmm")], [kind])
        self.assertEqual(kind_numbers(tongue, "which", "xmmmmmmcdefghijmmmmmmcdefghijz"), [1])
        self.assertEqual(kind_numbers(tongue, "which", "xmmmmmmqqqqqqqqq"), [2])

    def test_a_name_that_only_a_number_above_bound_would_have(self):
        rules = [word(4, "four"), word(5, "five"), word(6, "six")]
        tongue = Tongue(5, rules, None, [which()])
        self.assertEqual(kind_numbers(tongue, "which", "fourth"), [4])
        self.assertEqual(kind_numbers(tongue, "which", "fifth"), [5])
        self.assertEqual(kind_numbers(tongue, "which", "sixth"), [])

    def test_exactly_forty_words_and_forty_one(self):
        self.assertEqual(kind_numbers(tens(), "which", "one" + " ten" * 39 + "th"), [10 ** 39])
        self.assertEqual(kind_numbers(tens(), "which", "one" + " ten" * 40 + "th"), [])
        self.assertEqual(kind_numbers(tens(), "turned", "one" + " ten" * 38 + " tenth"), [10 ** 39])
        self.assertEqual(kind_numbers(tens(), "turned", "one" + " ten" * 39 + " tenth"), [])

    def test_just_the_numbers_that_have_the_name(self):
        several = 0
        for seed in range(60):
            tongue, dice = sounding_tongue(seed), random.Random(seed)
            for kind in tongue.kinds:
                names = slow_kind_names(tongue, kind)
                texts = sorted(set(names.values()))
                texts += [other for text in texts for other in altered(dice, text)] + list(slow_names(tongue).values())
                for text in texts:
                    with self.subTest(seed=seed, title=kind.title, text=text):
                        numbers = bearing(names, text)
                        self.assertEqual(kind_numbers(tongue, kind.title, text), numbers)
                        several += len(numbers) > 1
        self.assertGreater(several, 200)

    def test_each_number_is_found_by_its_name(self):
        kinds = [Kind("which", "th", []), Kind("part", "te", [("one", "first"), ("ein", "erste"), ("unus", "primus")])]
        for tongue in [with_kinds(plain, *kinds) for plain in living()]:
            for number in telling_numbers(HUGE)[::5]:
                for kind in kinds:
                    name = kind_name(tongue, kind.title, number)
                    if name is not None:
                        told = kind_numbers(tongue, kind.title, name)
                        self.assertIn(number, told)
                        self.assertEqual(told, sorted(set(told)))


class SharesTest(unittest.TestCase):

    def test_living(self):
        tongue = ordered_english()
        for many, whole, name in [
            (3, 4, "three quarter"), (1, 2, "one half"), (2, 100, "two one hundredth"), (100, 3, "one hundred third"),
            (0, 0, "zero zeroth"), (21, 22, "twentyone twentyhalf"),
        ]:
            with self.subTest(name=name):
                self.assertEqual(share_name(tongue, "part", many, whole), name)
                self.assertIn((many, whole), shares_in(tongue, "part", name))
        self.assertEqual(shares_in(tongue, "part", "three quarter"), [(3, 4)])

    def test_none_where_one_of_them_is_none(self):
        tongue = Tongue(9, [word(1, "one"), word(2, "two")], None, [which()])
        self.assertEqual(share_name(tongue, "which", 2, 1), "two first")
        for many, whole in [(3, 1), (1, 3), (3, 3), (-1, 1), (1, -1), (10, 1), (1, HUGE), (-HUGE, 1)]:
            with self.subTest(many=many, whole=whole):
                self.assertIsNone(share_name(tongue, "which", many, whole))

    def test_several_pairs_rising(self):
        rules = [word(number, "aa") for number in [5, 3]] + [Rule(10, 99, 10, 0, 0, ["Q", "aa"])]
        pairs = Tongue(99, rules, None, [Kind("which", "th", [])])
        self.assertEqual(shares_in(pairs, "which", "aa aath"), [(3, 3), (3, 5), (5, 3), (5, 5)])
        self.assertEqual(shares_in(pairs, "which", "aa aa aath"), [
            (3, 30), (3, 50), (5, 30), (5, 50), (30, 3), (30, 5), (50, 3), (50, 5),
        ])

    def test_texts_of_no_pair(self):
        tongue = ordered_english()
        for text in [
            "", " ", "  ", "third", "three", "three three", "threequarter", "three  quarter", " three quarter",
            "three quarter ", "quarter three", "three quarterr", "three quarte", "three quartes", "three half quarter",
            "quarter quarter", "three four", "Three quarter", "three+quarter", " quarter", "three ",
        ]:
            with self.subTest(text=text):
                self.assertEqual(shares_in(tongue, "part", text), [])

    def test_no_tie_stands_between_the_two(self):
        rules = [word(1, "aa"), word(2, "bb"), Rule(12, 12, 10, 2, 2, ["Q", "+", "cc", "+", "R"])]
        tongue = Tongue(99, rules, [("a", "b", "x")], [Kind("which", "th", [])])
        self.assertEqual(share_name(tongue, "which", 1, 2), "aa bbth")
        self.assertEqual(shares_in(tongue, "which", "aa bbth"), [(1, 2)])
        self.assertEqual(shares_in(tongue, "which", "axbth"), [])
        self.assertEqual(shares_in(tongue, "which", "aabbth"), [])
        self.assertEqual(shares_in(tongue, "which", "aaccbb aath"), [(12, 1)])

    def test_forty_words_each(self):
        name = "one" + " ten" * 39
        self.assertEqual(share_name(tens(), "which", 10 ** 39, 10 ** 39), f"{name} {name}th")
        self.assertEqual(shares_in(tens(), "which", f"{name} {name}th"), [(10 ** 39, 10 ** 39)])
        self.assertEqual(shares_in(tens(), "turned", f"one {name}th"), [(1, 10 ** 39)])
        self.assertEqual(shares_in(tens(), "which", f"one {name}th"), [(1, 10 ** 39)])
        self.assertEqual(shares_in(tens(), "which", f"one {name} tenth"), [])
        self.assertEqual(shares_in(tens(), "which", f"{name} ten oneth"), [])
        self.assertIsNone(share_name(tens(), "which", 1, 10 ** 40))
        self.assertIsNone(share_name(tens(), "which", 10 ** 40, 1))

    def test_above_bound(self):
        self.assertEqual(shares_in(tens(bound=100), "which", "one ten ten oneth"), [(100, 1)])
        self.assertEqual(shares_in(tens(bound=99), "which", "one ten ten oneth"), [])
        self.assertEqual(shares_in(tens(bound=99), "which", "one one ten tenth"), [])
        self.assertEqual(shares_in(tens(bound=100), "which", "one one ten tenth"), [(1, 100)])

    def test_just_the_pairs_that_have_the_name(self):
        several = 0
        for seed in range(60):
            tongue, dice = sounding_tongue(seed), random.Random(seed)
            ahead = slow_names(tongue)
            for kind in tongue.kinds:
                behind = slow_kind_names(tongue, kind)
                pairs = {(many, whole): f"{ahead[many]} {behind[whole]}" for many in ahead for whole in behind}
                texts = dice.sample(sorted(set(pairs.values())), min(8, len(set(pairs.values()))))
                for text in texts + [other for text in texts for other in altered(dice, text)]:
                    told = bearing(pairs, text)
                    if len(text) <= 500 and len(told) <= 200:
                        with self.subTest(seed=seed, title=kind.title, text=text):
                            self.assertEqual(shares_in(tongue, kind.title, text), told)
                        several += len(told) > 1
        self.assertGreater(several, 100)

    def test_each_pair_is_found_by_its_name(self):
        kinds = [Kind("part", "te", [("one", "first"), ("ein", "erste"), ("unus", "primus")])]
        for tongue in [with_kinds(plain, *kinds) for plain in living()]:
            numbers = [number for number in telling_numbers(HUGE) if name_of(tongue, number) is not None][::7]
            for many, whole in zip(numbers, reversed(numbers)):
                name = share_name(tongue, "part", many, whole)
                told = shares_in(tongue, "part", name)
                self.assertIn((many, whole), told)
                self.assertEqual(told, sorted(set(told)))


class NoKindTest(unittest.TestCase):

    def refused(self, ask, *told):
        with self.subTest(told=told):
            with self.assertRaises(NoKind) as caught:
                ask(*told)
            self.assertIs(type(caught.exception), NoKind)
            self.assertIsInstance(caught.exception, SayError)
            self.assertIsInstance(caught.exception, ValueError)

    def test_each_asks_for_the_kind(self):
        for tongue in [ordered_english(), Tongue(0, []), german()]:
            for title in ["other", "whic", "whichs", "", "Which", "th"]:
                self.refused(kind_row, tongue, title, ["one"])
                self.refused(kind_name, tongue, title, 1)
                self.refused(kind_numbers, tongue, title, "first")
                self.refused(share_name, tongue, title, 1, 1)
                self.refused(shares_in, tongue, title, "one first")

    def test_ahead_of_all_else(self):
        tongue = ordered_english()
        self.refused(kind_row, tongue, "other", ["+"])
        self.refused(kind_row, tongue, "other", [])
        self.refused(kind_numbers, tongue, "other", "")
        self.refused(shares_in, tongue, "other", "")
        for number in [-1, HUGE, HUGE + 1]:
            self.refused(kind_name, tongue, "other", number)
            self.refused(share_name, tongue, "other", number, 1)
            self.refused(share_name, tongue, "other", 1, number)


class OwnListsTest(unittest.TestCase):

    def test_lists_told_are_the_askers_own(self):
        tongue = ordered_english()
        kind_numbers(tongue, "which", "first").append(7)
        self.assertEqual(kind_numbers(tongue, "which", "first"), [1])
        shares_in(tongue, "part", "three quarter").clear()
        self.assertEqual(shares_in(tongue, "part", "three quarter"), [(3, 4)])

    def test_what_is_told_are_pairs(self):
        for pair in shares_in(ordered_english(), "part", "three quarter"):
            self.assertIsInstance(pair, tuple)

    def test_tongues_handed_in_stay(self):
        tongue = latin()
        kinds = [which()]
        kinded = with_kinds(tongue, *kinds)
        shares_in(kinded, "which", "unus duo")
        kind_numbers(kinded, "which", "duo")
        self.assertEqual(kinded.rules, tongue.rules)
        self.assertEqual(kinded.melts, latin().melts)
        self.assertEqual(kinded.kinds, kinds)
        self.assertEqual(kinds[0].turns, ORDINALS)
        self.assertEqual(said(kinded, ["unus"]), "unus")


if __name__ == "__main__":
    unittest.main()
