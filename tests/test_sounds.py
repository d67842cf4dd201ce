"""Points 3.1 to 3.4: sounds."""

import itertools
import random
import unittest

from numbersay.errors import BadRow, SayError
from numbersay.rows import row_of
from numbersay.rules import Rule
from numbersay.sounds import name_of, said, tied_in
from numbersay.tongues import Tongue
from tests.samples import HUGE, chance_melts, chance_text, chance_tongue, english, german, latin, living
from tests.samples import slow_row, slow_said, telling_numbers, word

PLAIN = Tongue(9, [])


def melting(*melts):
    return Tongue(9, [], list(melts))


def tied_row(words):
    """The words as a row, tied one to the next."""
    return "+".join(words).replace("+", " + ").split()


class SaidTest(unittest.TestCase):

    def test_words_that_no_tie_joins(self):
        self.assertEqual(said(PLAIN, ["aa"]), "aa")
        self.assertEqual(said(PLAIN, ["aa", "bb"]), "aa bb")
        self.assertEqual(said(PLAIN, ["aa", "aa", "cc", "bb"]), "aa aa cc bb")

    def test_tied_words(self):
        self.assertEqual(said(PLAIN, ["aa", "+", "bb"]), "aabb")
        self.assertEqual(said(PLAIN, ["aa", "+", "bb", "+", "cc"]), "aabbcc")
        self.assertEqual(said(PLAIN, ["aa", "bb", "+", "cc", "dd", "ee", "+", "ff"]), "aa bbcc dd eeff")

    def test_words_that_the_tongue_has_not(self):
        tongue = Tongue(9, [word(1, "one")])
        self.assertEqual(said(tongue, ["two", "+", "three"]), "twothree")

    def test_refused(self):
        rows = [
            [], ["+"], ["+", "aa"], ["aa", "+"], ["aa", "+", "+", "bb"], ["aa", "bb", "+"], ["+", "aa", "bb"],
            ["a"], ["aa", "abcdefghijk"], ["Aa"], ["aa", ""], ["aa", "Q"], ["aa bb"], ["aa", "+", "b"], ["aa", " "],
        ]
        for row in rows:
            with self.subTest(row=row):
                with self.assertRaises(BadRow) as caught:
                    said(PLAIN, row)
                self.assertIs(type(caught.exception), BadRow)
                self.assertIsInstance(caught.exception, SayError)
                self.assertIsInstance(caught.exception, ValueError)

    def test_rows_of_forty_one_words(self):
        self.assertEqual(said(PLAIN, ["aa"] * 41), "aa " * 40 + "aa")
        self.assertEqual(said(PLAIN, ["aa", "+"] * 40 + ["aa"]), "aa" * 41)

    def test_the_row_handed_in_stays(self):
        row = ["aa", "+", "bb", "cc"]
        melts = [("a", "b", "x")]
        tongue = Tongue(9, [], melts)
        self.assertEqual(said(tongue, row), "axb cc")
        self.assertEqual((row, melts), (["aa", "+", "bb", "cc"], [("a", "b", "x")]))
        row.clear()
        melts.clear()
        self.assertEqual(said(tongue, ["aa", "+", "bb", "cc"]), "axb cc")


class MeltedTest(unittest.TestCase):

    def test_these_letters_are_replaced(self):
        self.assertEqual(said(melting(("a", "b", "x")), ["ca", "+", "bd"]), "cxd")
        self.assertEqual(said(melting(("a", "b", "xyzxyz")), ["ca", "+", "bd"]), "cxyzxyzd")
        self.assertEqual(said(melting(("cca", "bdd", "xxxxx")), ["cca", "+", "bdd"]), "xxxxx")
        self.assertEqual(said(melting(("two", "ty", "twenty")), ["two", "+", "ty"]), "twenty")

    def test_only_at_ties(self):
        tongue = melting(("a", "b", "x"))
        self.assertEqual(said(tongue, ["ca", "bd"]), "ca bd")
        self.assertEqual(said(tongue, ["cabd"]), "cabd")
        self.assertEqual(said(tongue, ["cab", "+", "abd"]), "cababd")

    def test_both_ends_must_fit(self):
        tongue = melting(("ab", "cd", "xyz"))
        self.assertEqual(said(tongue, ["gab", "+", "cde"]), "gxyze")
        others = [("gac", "cde"), ("aba", "cde"), ("gab", "dcd"), ("gab", "ccd"), ("bb", "cd"), ("gb", "cd")]
        for ahead, behind in others:
            with self.subTest(ahead=ahead, behind=behind):
                self.assertEqual(said(tongue, [ahead, "+", behind]), ahead + behind)

    def test_behind_longer_than_the_word(self):
        self.assertEqual(said(melting(("a", "bbb", "xxx")), ["aa", "+", "bb"]), "aabb")
        self.assertEqual(said(melting(("aaa", "b", "xxx")), ["aa", "+", "bb"]), "aabb")

    def test_ahead_may_reach_over_words(self):
        # The text since the last blank is "abab", though the word ahead of the tie is "ab".
        self.assertEqual(said(melting(("bab", "c", "xyz")), ["ab", "+", "ab", "+", "cd"]), "axyzd")

    def test_not_beyond_a_blank(self):
        self.assertEqual(said(melting(("bab", "c", "xyz")), ["ab", "ab", "+", "cd"]), "ab abcd")

    def test_the_first_that_fits(self):
        melts = [("a", "c", "q"), ("a", "b", "x"), ("ca", "b", "yy"), ("a", "bd", "zz")]
        self.assertEqual(said(melting(*melts), ["ca", "+", "bd"]), "cxd")
        self.assertEqual(said(melting(*melts[2:]), ["ca", "+", "bd"]), "yyd")
        self.assertEqual(said(melting(*melts[::-1]), ["ca", "+", "bd"]), "czz")
        self.assertEqual(said(melting(("a", "b", "x"), ("a", "b", "y")), ["ca", "+", "bd"]), "cxd")

    def test_but_one_of_them(self):
        # What the first melt made would fit the second one, but the tie is done.
        self.assertEqual(said(melting(("a", "b", "ab"), ("b", "b", "zz")), ["ca", "+", "bb"]), "cabb")

    def test_once_at_each_tie(self):
        tongue = melting(("a", "b", "x"))
        self.assertEqual(said(tongue, ["ba", "+", "ba", "+", "ba", "ba", "+", "ba"]), "bxxa bxa")

    def test_letters_that_another_melt_made(self):
        tongue = melting(("a", "b", "xy"), ("y", "c", "zz"))
        self.assertEqual(said(tongue, ["ca", "+", "bc"]), "cxyc")
        self.assertEqual(said(melting(("a", "bb", "xy"), ("xy", "c", "zz")), ["ca", "+", "bb", "+", "cd"]), "czzd")
        self.assertEqual(said(melting(("a", "bb", "aa")), ["aa", "+", "bb", "+", "bb", "+", "bb"]), "aaaaa")

    def test_left_to_right(self):
        # From the right "ab" and "bc" would have melted first.
        tongue = melting(("a", "ab", "xx"), ("b", "b", "yy"), ("x", "bc", "zzz"))
        self.assertEqual(said(tongue, ["aa", "+", "ab", "+", "bc"]), "axzzz")

    def test_a_word_may_melt_at_both_ends(self):
        tongue = melting(("a", "b", "x"), ("c", "d", "y"))
        self.assertEqual(said(tongue, ["aa", "+", "bc", "+", "dd"]), "axyd")
        overlapping = melting(("a", "bc", "xc"), ("xc", "d", "yy"))
        self.assertEqual(said(overlapping, ["aa", "+", "bc", "+", "dd"]), "ayyd")

    def test_each_word_makes_the_text_longer(self):
        tongue = melting(("aaa", "aa", "aaaa"))
        for many in range(2, 12):
            self.assertEqual(len(said(tongue, tied_row(["aa"] * many))), many + 2)

    def test_against_the_words_of_the_point(self):
        for seed in range(60):
            dice = random.Random(seed)
            tongue = melting(*chance_melts(dice))
            for _ in range(40):
                row = ["ab"]
                for _ in range(dice.randrange(6)):
                    row += dice.choice([["+"], []]) + [chance_text(dice, 2, 4)]
                with self.subTest(melts=tongue.melts, row=row):
                    self.assertEqual(said(tongue, row), slow_said(tongue, row))


class NameOfTest(unittest.TestCase):

    def test_living_tongues(self):
        self.assertEqual(name_of(english(), 0), "zero")
        self.assertEqual(name_of(english(), 18), "eighteen")
        self.assertEqual(name_of(english(), 20), "twenty")
        self.assertEqual(name_of(english(), 35), "thirtyfive")
        self.assertEqual(name_of(english(), 243), "two hundred and fortythree")
        self.assertEqual(name_of(german(), 132), "hundertundzweiunddreissig")
        self.assertEqual(name_of(german(), 1000016), "ein millionen sechzehn")
        self.assertEqual(name_of(latin(), 59), "unus de sexaginta")
        self.assertEqual(name_of(latin(), 130), "unus centum treginta")

    def test_none_where_there_is_no_row(self):
        tongue = Tongue(5, [word(1, "one"), word(6, "six"), Rule(2, 3, 10, 2, 3, ["so", "R"])])
        for number in [-1, 0, 2, 3, 4, 6, HUGE, -HUGE]:
            with self.subTest(number=number):
                self.assertIsNone(name_of(tongue, number))
        self.assertEqual(name_of(tongue, 1), "one")

    def test_exactly_forty_words_and_forty_one(self):
        tongue = Tongue(HUGE, [word(1, "one"), Rule(1, HUGE, 10, 0, 0, ["Q", "+", "ten"])], [("e", "t", "t")])
        self.assertEqual(name_of(tongue, 10 ** 39), "onten" + "ten" * 38)
        self.assertIsNone(name_of(tongue, 10 ** 40))

    def test_sixty_figures(self):
        self.assertEqual(name_of(english(), 10 ** 59), "one hundred thousand quint myriad")
        self.assertIsNone(name_of(english(), HUGE))

    def test_against_the_words_of_the_points(self):
        for tongue in living() + [chance_tongue(seed) for seed in range(20)]:
            for number in telling_numbers(tongue.bound):
                row = slow_row(tongue, number)
                name = None if row is None else slow_said(tongue, row)
                self.assertEqual(name_of(tongue, number), name)
                if name is not None:
                    self.assertEqual(said(tongue, row_of(tongue, number)), name)


class TiedInTest(unittest.TestCase):

    def test_one_word(self):
        self.assertEqual(tied_in(PLAIN, ["ab"], "ab"), [["ab"]])
        self.assertEqual(tied_in(PLAIN, ["ab", "cd"], "cd"), [["cd"]])
        self.assertEqual(tied_in(PLAIN, ["ab"], "ba"), [])

    def test_several_words(self):
        self.assertEqual(tied_in(PLAIN, ["ab", "cd"], "abcd"), [["ab", "cd"]])
        self.assertEqual(tied_in(PLAIN, ["ab", "cd"], "cdababab"), [["cd", "ab", "ab", "ab"]])
        self.assertEqual(tied_in(PLAIN, ["ab", "cd"], "abcda"), [])
        self.assertEqual(tied_in(PLAIN, ["ab", "cd"], "aabcd"), [])

    def test_words_that_are_beginnings_of_one_another(self):
        self.assertEqual(
            tied_in(PLAIN, ["ab", "abab", "ababab"], "ababab"),
            [["ab", "ab", "ab"], ["ab", "abab"], ["abab", "ab"], ["ababab"]],
        )
        self.assertEqual(tied_in(PLAIN, ["one", "on", "eo", "ne"], "onone"), [["on", "one"]])
        self.assertEqual(tied_in(PLAIN, ["one", "on", "en", "ne"], "onene"), [["one", "ne"]])

    def test_a_word_twice_counts_once(self):
        self.assertEqual(tied_in(PLAIN, ["ab", "ab", "ab"], "abab"), [["ab", "ab"]])

    def test_the_empty_text_and_the_empty_list(self):
        self.assertEqual(tied_in(PLAIN, ["ab"], ""), [])
        self.assertEqual(tied_in(PLAIN, [], ""), [])
        self.assertEqual(tied_in(PLAIN, [], "ab"), [])
        self.assertEqual(tied_in(melting(("a", "b", "x")), ["ab"], ""), [])

    def test_rising_whatever_order_they_are_handed_in(self):
        for words in itertools.permutations(["aa", "ab", "aaab", "aaaa"]):
            self.assertEqual(
                tied_in(PLAIN, list(words), "aaaaab"),
                [["aa", "aa", "ab"], ["aa", "aaab"], ["aaaa", "ab"]],
            )

    def test_not_just_words_of_the_tongue(self):
        tongue = Tongue(9, [word(1, "one")])
        self.assertEqual(tied_in(tongue, ["ab"], "one"), [])
        self.assertEqual(tied_in(tongue, ["ab"], "abab"), [["ab", "ab"]])

    def test_melts(self):
        tongue = melting(("two", "ty", "twenty"), ("our", "ty", "orty"))
        words = ["two", "four", "ty", "one", "twenty"]
        self.assertEqual(tied_in(tongue, words, "twenty"), [["twenty"], ["two", "ty"]])
        self.assertEqual(tied_in(tongue, words, "fortytwo"), [["four", "ty", "two"]])
        self.assertEqual(tied_in(tongue, words, "fourty"), [])
        self.assertEqual(tied_in(tongue, words, "twentytwenty"), [
            ["twenty", "twenty"], ["twenty", "two", "ty"], ["two", "ty", "twenty"], ["two", "ty", "two", "ty"],
        ])

    def test_where_a_melt_fits_words_do_not_stand_side_by_side(self):
        tongue = melting(("a", "b", "x"))
        self.assertEqual(tied_in(tongue, ["aa", "bb"], "aabb"), [])
        self.assertEqual(tied_in(tongue, ["aa", "bb"], "axb"), [["aa", "bb"]])
        self.assertEqual(tied_in(tongue, ["aa", "bb", "aabb"], "aabb"), [["aabb"]])

    def test_but_the_first_melt_that_fits(self):
        tongue = melting(("a", "b", "x"), ("a", "b", "y"), ("aa", "b", "zz"))
        self.assertEqual(tied_in(tongue, ["aa", "bb"], "axb"), [["aa", "bb"]])
        self.assertEqual(tied_in(tongue, ["aa", "bb"], "ayb"), [])
        self.assertEqual(tied_in(tongue, ["aa", "bb"], "zzb"), [])

    def test_letters_that_another_melt_made(self):
        tongue = melting(("a", "bb", "xy"), ("xy", "c", "zz"))
        self.assertEqual(tied_in(tongue, ["ca", "bb", "cd"], "czzd"), [["ca", "bb", "cd"]])
        self.assertEqual(tied_in(tongue, ["ca", "bb", "cd"], "cxycd"), [])
        self.assertEqual(tied_in(tongue, ["ca", "bb", "cd"], "cxy"), [["ca", "bb"]])

    def test_the_end_must_be_done(self):
        tongue = melting(("a", "b", "x"))
        self.assertEqual(tied_in(tongue, ["ca", "bd"], "cx"), [])
        self.assertEqual(tied_in(tongue, ["ca", "bd"], "ca"), [["ca"]])
        self.assertEqual(tied_in(tongue, ["cab", "bd"], "cac"), [])

    def test_more_than_two_hundred_lists(self):
        lists = tied_in(PLAIN, ["aa", "ab", "aaaa", "aaab", "aaa", "aab"], "aa" * 8 + "ab")
        brute = [
            list(words)
            for many in range(1, 10)
            for words in itertools.product(["aa", "aaa", "aaaa"], repeat=many - 1)
            for last in ["ab", "aab", "aaab"]
            if "".join(words) + last == "aa" * 8 + "ab"
            for words in [words + (last,)]
        ]
        self.assertGreater(len(lists), 200)
        self.assertEqual(lists, sorted(brute))

    def test_a_text_of_five_hundred_signs(self):
        self.assertEqual(tied_in(PLAIN, ["aa", "ab"], "aa" * 250), [["aa"] * 250])
        # A great many ways begin, and none of them comes to the end.
        self.assertEqual(tied_in(PLAIN, ["aa", "aaa", "ab"], "a" * 499 + "c"), [])
        tongue = melting(("aaa", "aa", "aaaa"))
        self.assertEqual(tied_in(tongue, ["aa"], "a" * 500), [["aa"] * 498])

    def test_texts_of_other_signs(self):
        for text in ["AB", "a+b", "ab+ab", "ab ab", " ab", "12", "~"]:
            with self.subTest(text=text):
                self.assertEqual(tied_in(PLAIN, ["ab", "abab"], text), [])

    def test_against_the_words_of_the_point(self):
        longest = 6
        for seed in range(120):
            dice = random.Random(seed)
            tongue = melting(*chance_melts(dice))
            words = [chance_text(dice, 2, 3) for _ in range(dice.randrange(1, 4))]
            lists = {}
            for many in range(1, longest):
                for tied_words in itertools.product(sorted(set(words)), repeat=many):
                    text = slow_said(tongue, tied_row(tied_words))
                    lists.setdefault(text, []).append(list(tied_words))
            texts = [text for text in lists if len(text) <= longest]
            texts += ["".join(letters) for letters in itertools.product("ab", repeat=4)]
            for text in texts:
                with self.subTest(melts=tongue.melts, words=words, text=text):
                    self.assertEqual(tied_in(tongue, words, text), sorted(lists.get(text, [])))

    def test_the_lists_told_and_handed_in(self):
        words = ["ab", "abab", "ab"]
        told = tied_in(PLAIN, words, "abab")
        self.assertEqual(told, [["ab", "ab"], ["abab"]])
        self.assertEqual(words, ["ab", "abab", "ab"])
        told[0].append("more")
        told[1][0] = "less"
        told.append(["else"])
        words.append("ba")
        self.assertEqual(tied_in(PLAIN, ["ab", "abab"], "abab"), [["ab", "ab"], ["abab"]])


if __name__ == "__main__":
    unittest.main()
