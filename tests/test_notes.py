"""Points 9.1 to 9.3: tongues as texts."""

import random
import unittest

from numbersay.errors import BadText, SayError
from numbersay.kinds import Kind
from numbersay.notes import answers, read_tongue, tongue_text
from numbersay.rules import Rule
from numbersay.sounds import name_of
from numbersay.texts import numbers_in
from numbersay.tongues import Tongue
from tests.samples import HUGE, english, living, slow_names, sounding_tongue, with_kinds, word

SMALL = """bound 99
word 1 one
word 2 two
rule 20 99 10 1 9 : Q + ty + R
melt two ty twenty
melt o t ot
kind which th
turn one first
turn two second
kind part ish
"""


def small():
    rules = [word(1, "one"), word(2, "two"), Rule(20, 99, 10, 1, 9, ["Q", "+", "ty", "+", "R"])]
    kinds = [Kind("which", "th", [("one", "first"), ("two", "second")]), Kind("part", "ish", [])]
    return Tongue(99, rules, [("two", "ty", "twenty"), ("o", "t", "ot")], kinds)


def fields(tongue):
    """All that a tongue tells."""
    rules = [(rule.low, rule.high, rule.base, rule.first, rule.last, rule.pieces) for rule in tongue.rules]
    return tongue.bound, rules, tongue.melts, [(kind.title, kind.ending, kind.turns) for kind in tongue.kinds]


class TongueTextTest(unittest.TestCase):

    def test_all_sorts_of_rows(self):
        self.assertEqual(tongue_text(small()), SMALL)

    def test_bound_alone(self):
        self.assertEqual(tongue_text(Tongue(0, [])), "bound 0\n")
        self.assertEqual(tongue_text(Tongue(HUGE, [])), "bound " + "9" * 60 + "\n")

    def rule_row(self, *told):
        rows = tongue_text(Tongue(9, [Rule(*told)])).split("\n")
        self.assertEqual((rows[0], rows[2:]), ("bound 9", [""]))
        return rows[1]

    def test_rules_of_one_word_alone(self):
        self.assertEqual(self.rule_row(0, 0, 2, 0, 0, ["nil"]), "word 0 nil")
        self.assertEqual(self.rule_row(7, 7, 2, 1, 1, ["seven"]), "word 7 seven")
        self.assertEqual(self.rule_row(8, 8, 2, 0, 0, ["eight"]), "word 8 eight")
        self.assertEqual(self.rule_row(HUGE, HUGE, 2, 1, 1, ["all"]), "word " + "9" * 60 + " all")

    def test_rules_of_one_word_that_are_not_written_so(self):
        cases = [
            (7, 7, 10, 7, 7), (7, 7, 3, 1, 1), (8, 8, 3, 2, 2), (7, 7, 2, 0, 0), (8, 8, 2, 1, 1), (6, 7, 2, 0, 0),
            (6, 7, 2, 1, 1), (0, 1, 2, 0, 0), (1, 1, 3, 1, 1), (0, 0, 3, 0, 0),
        ]
        for told in cases:
            with self.subTest(told=told):
                low, high, base, first, last = told
                self.assertEqual(self.rule_row(*told, ["aa"]), f"rule {low} {high} {base} {first} {last} : aa")

    def test_rules_of_several_pieces(self):
        self.assertEqual(self.rule_row(7, 7, 2, 1, 1, ["aa", "bb"]), "rule 7 7 2 1 1 : aa bb")
        self.assertEqual(self.rule_row(7, 7, 2, 1, 1, ["aa", "+", "bb"]), "rule 7 7 2 1 1 : aa + bb")
        self.assertEqual(self.rule_row(7, 7, 2, 1, 1, ["aa", "R"]), "rule 7 7 2 1 1 : aa R")
        self.assertEqual(
            self.rule_row(0, HUGE, 10, 0, 9, ["Q", "N", "W", "+", "U", "R", "K", "zz"]),
            "rule 0 " + "9" * 60 + " 10 0 9 : Q N W + U R K zz",
        )

    def test_in_order(self):
        rules = [word(3, "tri"), Rule(3, 4, 10, 3, 4, ["aa", "R"]), word(1, "one"), word(3, "tri")]
        kinds = [Kind("z", "zz", [("zz", "aa"), ("aa", "zz")])]
        text = tongue_text(Tongue(5, rules, [("b", "b", "b"), ("a", "a", "a")], kinds))
        self.assertEqual(text.split("\n"), [
            "bound 5", "word 3 tri", "rule 3 4 10 3 4 : aa R", "word 1 one", "word 3 tri", "melt b b b", "melt a a a",
            "kind z zz", "turn zz aa", "turn aa zz", "",
        ])

    def test_the_tongue_handed_in_stays(self):
        tongue = small()
        tongue_text(tongue)
        self.assertEqual(fields(tongue), fields(small()))


class ReadTest(unittest.TestCase):

    def reads(self, text, tongue):
        with self.subTest(text=text):
            told = read_tongue(text)
            self.assertIsInstance(told, Tongue)
            self.assertEqual(fields(told), fields(tongue))

    def test_written_and_read(self):
        self.reads(SMALL, small())
        tongues = living() + [with_kinds(english(), *small().kinds)] + [sounding_tongue(seed) for seed in range(60)]
        for tongue in tongues + [Tongue(0, []), Tongue(HUGE, [])]:
            text = tongue_text(tongue)
            self.reads(text, tongue)
            self.assertEqual(tongue_text(read_tongue(text)), text)
            self.assertRegex(text, r"\A([!-~]+( [!-~]+)*\n)+\Z")

    def test_no_line_feed_at_the_end(self):
        self.reads(SMALL[:-1], small())
        self.reads("bound 7", Tongue(7, []))
        self.reads("bound 7\nword 1 one", Tongue(7, [word(1, "one")]))

    def test_several_blanks_and_blanks_at_the_ends(self):
        self.reads(SMALL.replace(" ", "   "), small())
        self.reads(SMALL.replace("\n", "  \n"), small())
        self.reads("   " + SMALL.replace("\n", "\n "), small())

    def test_rows_of_blanks_alone(self):
        self.reads("\n" + SMALL, small())
        self.reads("\n\n  \n" + SMALL.replace("\n", "\n\n   \n") + "\n\n", small())

    def test_a_rule_of_one_word_may_stand_as_rule(self):
        self.reads("bound 9\nrule 7 7 2 1 1 : seven\n", Tongue(9, [word(7, "seven")]))
        self.assertEqual(tongue_text(read_tongue("bound 9\nrule 7 7 2 1 1 : seven\n")), "bound 9\nword 7 seven\n")

    def test_rules_and_words_in_any_order(self):
        rules = [Rule(20, 99, 10, 1, 9, ["Q", "ty", "R"]), word(1, "one"), Rule(3, 3, 3, 0, 0, ["tri"]), word(0, "nil")]
        rows = ["bound 9", "rule 20 99 10 1 9 : Q ty R", "word 1 one", "rule 3 3 3 0 0 : tri", "word 0 nil"]
        self.reads("\n".join(rows), Tongue(9, rules))

    def test_some_sorts_left_out(self):
        self.reads("bound 9\nmelt a b ab\n", Tongue(9, [], [("a", "b", "ab")]))
        self.reads("bound 9\nkind which th\n", Tongue(9, [], None, [Kind("which", "th", [])]))
        self.reads("bound 9\nword 1 one\nkind k th\nturn aa bb\n", Tongue(9, [word(1, "one")], None, [
            Kind("k", "th", [("aa", "bb")]),
        ]))

    def test_numbers_of_sixty_figures(self):
        nines = "9" * 60
        self.reads(f"bound {nines}\nword {nines} all\n", Tongue(HUGE, [word(HUGE, "all")]))
        rule = Rule(HUGE - 1, HUGE, HUGE, 0, HUGE - 1, ["aa", "Q", "R"])
        self.reads(f"bound 0\nrule {HUGE - 1} {nines} {nines} 0 {HUGE - 1} : aa Q R\n", Tongue(0, [rule]))
        self.reads("bound 1" + "0" * 59, Tongue(10 ** 59, []))

    def test_words_of_the_rows_as_words_of_the_tongue(self):
        text = "bound 9\nword 1 word\nword 2 rule\nmelt a b ab\nkind kind turn\nturn bound melt\n"
        self.reads(text, Tongue(9, [word(1, "word"), word(2, "rule")], [("a", "b", "ab")], [
            Kind("kind", "turn", [("bound", "melt")]),
        ]))

    def test_twelve_turns_and_five_kinds(self):
        turns = [("w" + letter, letter + "w") for letter in "abcdefghijkl"]
        tongue = Tongue(9, [], None, [Kind(title, "th", turns) for title in "abcde"])
        self.reads(tongue_text(tongue), tongue)

    def test_tongues_read_share_nothing(self):
        one, other = read_tongue(SMALL), read_tongue(SMALL)
        one.rules.clear()
        one.melts.clear()
        one.kinds[0].turns.clear()
        self.assertEqual(fields(other), fields(small()))
        self.assertEqual(fields(read_tongue(SMALL)), fields(small()))


class ReadRefusedTest(unittest.TestCase):

    def refused(self, text, row):
        for ask in [read_tongue, lambda told: answers(told, []), lambda told: answers(told, ["1", "one"])]:
            with self.subTest(text=text):
                with self.assertRaises(BadText) as caught:
                    ask(text)
                self.assertEqual(caught.exception.row, row)
                self.assertIs(type(caught.exception), BadText)
                self.assertIsInstance(caught.exception, SayError)
                self.assertIsInstance(caught.exception, ValueError)

    def behind(self, ahead, *rows):
        """Each of the rows is refused behind what is ahead, also with blank rows ahead and a bad row behind."""
        number = ahead.count("\n")
        for row in rows:
            self.refused(ahead + row, number)
            self.refused(ahead + row + "\n", number)
            self.refused(f"{ahead}  {row} \nword 1 one\n", number)
            self.refused(f"\n   \n{ahead}\n{row}\nnone\n", number + 3)
            self.refused(f"{ahead}{row}\n{row}\nbound 1\n", number)

    def test_where_all_rows_are_blank(self):
        self.refused("", 1)
        self.refused(" ", 1)
        self.refused("\n", 2)
        self.refused("\n\n", 3)
        self.refused("   \n \n\n  ", 4)

    def test_rows_that_are_none(self):
        self.behind("bound 9\n", "none", "Word 1 one", "words 1 one", "bounds", ":", "+", "1", "word", "rule", "melt")
        self.behind("bound 9\n", "kind", "turn", "~", "wor d 1 one", "word,1,one", "9", "# note", "bound9")
        self.behind("", "none", "Bound 9", "9", "bound:9")

    def test_bound_rows(self):
        self.behind("", "bound", "bound 9 9", "bound nine", "bound -1", "bound +1", "bound 09", "bound 00", "bound 1.0")
        self.behind("", "bound 1_0", "bound 9 :", "bound " + "9" * 61, "bound 0" + "9" * 59, "bound 1" + "0" * 60)

    def test_word_rows(self):
        self.behind(
            "bound 9\nword 0 nil\n", "word 1", "word one", "word one 1", "word 1 one one", "word 01 one", "word -1 one",
            "word 1 a", "word 1 abcdefghijk", "word 1 One", "word 1 +", "word 1 Q", "word 1 : one", "word 1 1",
            "word " + "1" * 61 + " one", "word 00 one",
        )

    def test_rule_rows(self):
        self.behind(
            "bound 9\nword 0 nil\n", "rule 1 2 10 1 2", "rule 1 2 10 1 2 :", "rule 1 2 10 1 2 aa R",
            "rule 1 2 10 1 2 aa aa R", "rule 1 2 10 1 2 :: aa R", "rule 1 2 10 1 2 2 aa R",
            "rule 1 2 10 1 : aa R", "rule 1 2 10 1 2 2 : aa R", "rule : aa", "rule 1 2 10 1 2 :aa R",
            "rule 1 2 10 1 2: aa R",
            "rule 01 2 10 1 2 : aa R", "rule 1 02 10 1 2 : aa R", "rule 1 2 010 1 2 : aa R", "rule 1 2 10 01 2 : aa R",
            "rule 1 2 10 1 02 : aa R", "rule -1 2 10 1 2 : aa R", "rule one 2 10 1 2 : aa R",
            "rule 1 2 10 1 2 : : aa R",
            "rule 1 2 10 1 " + "2" * 61 + " : aa R", "rule 1 2 1" + "0" * 60 + " 1 2 : aa R", "rule",
        )

    def test_rules_that_are_refused(self):
        self.behind(
            "bound 9\nrule 1 2 10 1 2 : aa R\n", "rule 2 1 10 1 2 : aa R", "rule 1 2 1 0 0 : aa Q",
            "rule 1 2 0 0 0 : aa Q",
            "rule 1 2 10 2 1 : aa R", "rule 1 2 10 1 10 : aa R", "rule 1 2 10 1 2 : aa", "rule 1 20 10 1 1 : aa",
            "rule 1 2 10 1 2 : R", "rule 1 2 10 1 2 : + aa R", "rule 1 2 10 1 2 : aa R +", "rule 1 2 10 1 2 : aa + + R",
            "rule 1 2 10 1 2 : aa R R", "rule 1 2 10 1 2 : aa X R", "rule 1 2 10 1 2 : a R",
            "rule 1 2 10 1 2 : aa aa aa aa aa aa aa aa R",
        )

    def test_melt_rows(self):
        self.behind(
            "bound 9\nmelt a b ab\n", "melt a b", "melt a", "melt a b ab ab", "melt aaaa b aaaab", "melt a bbbb abbbb",
            "melt a b abababa", "melt aa bb ab", "melt A b ab", "melt a + ab", "melt a b 12", "melt : a b", "melt",
        )

    def test_kind_rows(self):
        self.behind(
            "bound 9\nkind part th\n", "kind which", "kind which th th", "kind abcdefghi th", "kind Which th",
            "kind which t", "kind which abcdefghijk", "kind which +", "kind", "kind w1 th",
        )

    def test_turn_rows(self):
        self.behind(
            "bound 9\nkind which th\nturn one first\n", "turn two", "turn", "turn two second third", "turn a second",
            "turn two b", "turn Two second", "turn two +", "turn Q second", "turn two abcdefghijk",
        )

    def test_the_turn_that_makes_its_kind_refused(self):
        self.behind("bound 9\nkind which th\nturn one first\nturn two second\n", "turn one first", "turn two other")
        self.refused("bound 9\nkind which th\nturn one first\nturn one other\nturn one more\n", 3)
        self.refused("bound 9\nkind a th\nturn one first\nkind b th\nturn one first\n\nturn one first\n", 6)

    def test_a_title_twice(self):
        self.behind("bound 9\nkind which th\n", "kind which th", "kind which ish")
        self.behind("bound 9\nkind which th\nturn one first\nkind part th\nturn one first\n", "kind which th")
        self.refused("bound 9\nkind a th\nkind b th\n\nkind a th\nturn one first\nkind b th\n", 4)

    def test_bound_first_and_once(self):
        for row in ["word 1 one", "rule 1 2 10 1 2 : aa R", "melt a b ab", "kind which th", "turn one first"]:
            self.refused(row, 0)
            self.refused(row + "\nbound 9\n", 0)
            self.refused("\n \n" + row + "\nbound 9\n", 2)
        self.behind("bound 9\n", "bound 9", "bound 7", "bound")
        self.behind(SMALL, "bound 9")

    def test_rows_where_they_must_not_stand(self):
        rule, melt, kind, turn = "rule 1 2 10 1 2 : aa R", "melt a b ab", "kind which th", "turn one first"
        self.behind(f"bound 9\n{melt}\n", "word 1 one", rule, turn, "bound 9")
        self.behind(f"bound 9\n{rule}\n{melt}\n", "word 1 one", rule, turn)
        self.behind(f"bound 9\n{kind}\n", "word 1 one", rule, melt, "bound 9")
        self.behind(f"bound 9\n{kind}\n{turn}\n", "word 1 one", rule, melt, "bound 9")

    def test_a_turn_ahead_of_the_first_kind(self):
        for rows in ["", "word 1 one\n", "melt a b ab\n", "word 1 one\nmelt a b ab\n"]:
            ahead = "bound 9\n" + rows
            self.behind(ahead, "turn one first")
            self.refused(ahead + "turn one first\nkind which th\n", ahead.count("\n"))

    def test_the_first_bad_row_is_told(self):
        self.refused("bound 9\nword 1 one\nword 2 b\nnone\nbound 9\n", 2)
        self.refused("bound 9\nnone\nword 2 b\n", 1)
        self.refused("none\nbound 09\n", 0)
        self.refused("bound 9\nkind a th\nkind b t\nkind a th\n", 2)

    def test_all_rows_are_counted(self):
        self.refused("\n\nbound 9\n\n  \nnone\n", 5)


class AnswersTest(unittest.TestCase):

    def test_numbers_by_figures(self):
        self.assertEqual(answers(SMALL, ["1", "2", "21", "22"]), ["one", "two", "twentyone", "twentytwo"])
        self.assertEqual(answers(SMALL, ["0", "20", "3", "99"]), ["-", "-", "-", "-"])

    def test_at_bound_and_above_it(self):
        text = "bound 5\nword 0 nil\nword 5 five\nword 6 six\n"
        self.assertEqual(answers(text, ["0", "5", "6", "9" * 60, "1" + "0" * 59]), ["nil", "five", "-", "-", "-"])
        nines = "9" * 60
        self.assertEqual(answers(f"bound {nines}\nword {nines} all\n", [nines, "all"]), ["all", nines])

    def test_figures_that_are_asked_as_a_name(self):
        self.assertEqual(answers(SMALL, ["01", "00", "001", "-1", "+1", "1 ", " 1", "1_0", "1.0"]), ["-"] * 9)
        text = "bound 9\nword 0 nil\nword 1 one\n"
        self.assertEqual(answers(text, ["0", "00", "01", "9" * 61]), ["nil", "-", "-", "-"])

    def test_names_of_one_number_and_of_several(self):
        self.assertEqual(answers(SMALL, ["one", "twentyone", "two"]), ["1", "21", "2"])
        text = "bound 99\nword 7 aa\nword 3 aa\nword 12 aa\nword 4 bb\n"
        self.assertEqual(answers(text, ["aa", "bb", "cc", "aa"]), ["3 7 12", "4", "-", "3 7 12"])

    def test_texts_that_are_none(self):
        texts = ["", " ", "  ", "-", "none", "One", "one ", " one", "twoty one", "twoty", "first", "+", "one two", "~"]
        self.assertEqual(answers(SMALL, texts), ["-"] * len(texts))

    def test_names_with_blanks(self):
        text = "bound 999\nword 2 two\nrule 100 999 100 0 0 : Q hundred\n"
        asked = ["200", "two hundred", "two  hundred", "twohundred"]
        self.assertEqual(answers(text, asked), ["two hundred", "200", "-", "-"])

    def test_no_texts_at_all(self):
        self.assertEqual(answers(SMALL, []), [])
        with self.assertRaises(BadText) as caught:
            answers("", [])
        self.assertEqual(caught.exception.row, 1)

    def test_against_the_points(self):
        for seed in range(30):
            tongue, dice = sounding_tongue(seed), random.Random(seed)
            names = slow_names(tongue)
            asked = [str(number) for number in range(tongue.bound + 3)]
            told = [names.get(int(text), "-") for text in asked]
            for name in dice.sample(sorted(set(names.values())), min(10, len(set(names.values())))):
                asked.append(name)
                told.append(" ".join(str(number) for number in names if names[number] == name))
            with self.subTest(seed=seed):
                self.assertEqual(answers(tongue_text(tongue), asked), told)

    def test_living(self):
        tongue = english()
        text = tongue_text(tongue)
        for number in [0, 18, 243, 10 ** 59, 123456789]:
            name = name_of(tongue, number)
            self.assertEqual(answers(text, [str(number), name]), [name, " ".join(map(str, numbers_in(tongue, name)))])

    def test_the_lists_told_and_handed_in(self):
        asked = ["1", "one"]
        told = answers(SMALL, asked)
        self.assertEqual((asked, told), (["1", "one"], ["one", "1"]))
        told.clear()
        asked.append("2")
        self.assertEqual(answers(SMALL, ["1", "one"]), ["one", "1"])


if __name__ == "__main__":
    unittest.main()
