"""The interface: every name with its arguments."""

import importlib
import inspect
import unittest

NAMES = {
    "rules": [
        "Rule(low, high, base, first, last, pieces)", "is_word(text)", "covers(rule, number)",
        "parts_of(rule, number)", "numbers_from(rule, parts)",
    ],
    "tongues": ["Tongue(bound, rules, melts=None, kinds=None)", "rule_for(tongue, number)", "words_of(tongue)"],
    "rows": ["row_of(tongue, number)", "steps_of(tongue, number)", "words_in(row)", "is_row(row)"],
    "free": ["free_rows(tongue, number, most)"],
    "sounds": ["said(tongue, row)", "name_of(tongue, number)", "tied_in(tongue, words, text)"],
    "hearing": ["heard(tongue, words)", "readings(tongue, row)"],
    "texts": ["numbers_in(tongue, text)", "run_together(tongue, text)", "rows_in(tongue, text)"],
    "kinds": [
        "Kind(title, ending, turns)", "kind_row(tongue, title, row)", "kind_name(tongue, title, number)",
        "kind_numbers(tongue, title, text)", "share_name(tongue, title, many, whole)", "shares_in(tongue, title, text)",
    ],
    "looking": [
        "looked(tongue, most)", "nameless(tongue, most)", "doubles(tongue, most)", "first_free(tongue, most, words)",
    ],
    "counting": ["count_on(tongue, name, many)"],
    "turning": [
        "reworded(tongue, pairs)", "mirrored(tongue)", "put_over(one, other, name)", "agree(one, other, pairs, most)",
    ],
    "notes": ["tongue_text(tongue)", "read_tongue(text)", "answers(text, asked)"],
    "errors": ["BadText(row)"],
}


class InterfaceTest(unittest.TestCase):

    def test_names_and_arguments(self):
        for module, signatures in NAMES.items():
            told = importlib.import_module(f"numbersay.{module}")
            for signature in signatures:
                with self.subTest(module=module, signature=signature):
                    name = signature.partition("(")[0]
                    self.assertEqual(name + str(inspect.signature(getattr(told, name))), signature)
                    self.assertEqual(getattr(told, name).__module__, f"numbersay.{module}")


if __name__ == "__main__":
    unittest.main()
