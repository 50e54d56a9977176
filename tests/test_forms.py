"""0.3, 0.5, 1.1: is_form."""

import itertools
import unittest

from samples import (Asking, DEEPENING, FLAT_FORMS, ODD_THINGS, forms_one_deep, too_few_or_many,
                     with_list_at_each_level, wrapped)
from twonamed.things import is_form


class Forms(Asking, unittest.TestCase):
    def test_plain_forms(self):
        self.is_told(is_form, True, ["yes", "no"])

    def test_marks(self):
        self.is_told(is_form, True, [("a", "x"), ("a", "y"), ("b", "x"), ("b", "y")])

    def test_arrows(self):
        self.is_told(is_form, True, [("to", "x", "x"), ("to", "x", "y"), ("to", "y", "x"), ("to", "y", "y")])

    def test_forms_within_forms(self):
        self.is_told(is_form, True, forms_one_deep())
        self.is_told(is_form, True, [
            ("not", ("not", "yes")),
            ("both", ("either", ("a", "x"), "no"), ("not", ("to", "y", "x"))),
            ("either", ("b", "y"), ("both", "yes", ("not", ("b", "x")))),
        ])

    def test_at_most_5_deep(self):
        for flat in FLAT_FORMS:
            for wrap in DEEPENING:
                for times in range(6):
                    self.is_told(is_form, True, [wrapped(flat, wrap, times)])
                self.is_told(is_form, False, [wrapped(flat, wrap, 6), wrapped(flat, wrap, 7)])

    def test_5_and_6_deep_by_mixed_words(self):
        for wraps in itertools.product(DEEPENING[:5], repeat=4):
            form = ("not", ("to", "x", "y"))
            for wrap in wraps:
                form = wrap(form)
            self.is_told(is_form, True, [form])
            self.is_told(is_form, False, [("not", form), ("both", form, "yes"), ("either", "yes", form)])

    def test_wrong_names(self):
        for wrong in ("z", "X", "", "xy", "yes", "a", 0, 1, True, None, (), ("x",), ["x"]):
            self.is_told(is_form, False, [
                ("a", wrong), ("b", wrong),
                ("to", wrong, "x"), ("to", "y", wrong), ("to", wrong, wrong),
            ])

    def test_wrong_words(self):
        for wrong in ("", "A", "c", "and", "or", "yes", "no", "x", "each", "some", "Not", "both ", 0, True, None,
                      (), [], ("a",), ["not"], "not\n"):
            self.is_told(is_form, False, [
                (wrong,), (wrong, "x"), (wrong, "yes"), (wrong, "x", "y"), (wrong, "yes", "no"),
            ])

    def test_words_of_one_kind_with_parts_of_another(self):
        self.is_told(is_form, False, [
            ("a", "yes"), ("a", ("a", "x")), ("b", "no"), ("to", "yes", "no"), ("to", ("a", "x"), "y"),
            ("not", "x"), ("both", "x", "y"), ("either", "x", "yes"), ("either", "yes", "y"), ("both", "yes", "x"),
            ("a", "x", "y"), ("to", "x"), ("not", "yes", "no"), ("both", "yes"), ("either", "no"),
        ])

    def test_a_part_too_few_or_too_many(self):
        for form in FLAT_FORMS[2:] + (("not", "yes"), ("both", "yes", "no"), ("either", ("a", "x"), "no")):
            for extra in ("x", "yes", None, form):
                wrong = too_few_or_many(form, extra)
                self.is_told(is_form, False, wrong)
                self.is_told(is_form, False, [("not", part) for part in wrong])
                self.is_told(is_form, False, [("both", "yes", part) for part in wrong])
        self.is_told(is_form, False, [(), ("yes",), ("no",), ("a",), ("to",), ("not",), ("both",), ("either",)])

    def test_a_list_in_the_place_of_a_tuple(self):
        deep = ("both", ("not", ("either", ("a", "x"), ("to", "x", "y"))), ("either", "no", ("not", ("b", "y"))))
        self.is_told(is_form, True, [deep])
        wrong = with_list_at_each_level(deep)
        self.assertEqual(len(wrong), 8)
        self.is_told(is_form, False, wrong)
        for form in list(FLAT_FORMS[2:]) + forms_one_deep():
            self.is_told(is_form, False, with_list_at_each_level(form))

    def test_a_wrong_form_within(self):
        for thing in ODD_THINGS:
            self.is_told(is_form, False, [
                ("not", thing), ("both", thing, "yes"), ("both", "yes", thing),
                ("either", thing, "yes"), ("either", "yes", thing), ("not", ("not", ("both", "yes", thing))),
            ])

    def test_things_that_are_no_forms(self):
        self.is_told(is_form, False, ODD_THINGS)

    def test_things_some_thirty_deep(self):
        self.is_not_told_of_deep_things(is_form)

    def test_just_these_of_all_small_things(self):
        forms = [repr(form) for form in FLAT_FORMS] + [repr(form) for form in forms_one_deep()]
        right = dict.fromkeys(forms, True)
        parts = FLAT_FORMS + ("a", "b", "to", "not", "both", "either", "x", "y", "each", 0, True, None, (), ["yes"])
        found = 0
        for length in range(4):
            for thing in itertools.product(parts, repeat=length):
                told = is_form(thing)
                self.assertIs(told, repr(thing) in right, thing)
                found += told
        self.assertEqual(found, len(right) - 2)


if __name__ == "__main__":
    unittest.main()
