"""0.3, 1.2: written."""

import unittest

from samples import Asking, FLAT_FORMS, forms_one_deep, wrapped
from twonamed.writing import written


class Writing(Asking, unittest.TestCase):
    def is_written(self, row, text):
        told = self.tell(written, row)
        self.assertIsInstance(told, str)
        self.assertEqual(told, text)

    def form_is_written(self, form, text):
        self.is_written((("each", "some", form),), "each some " + text)

    def test_the_row_of_no_demands(self):
        self.is_written((), "-")

    def test_one_demand_with_each_choice_of_words(self):
        self.is_written((("each", "each", "yes"),), "each each yes")
        self.is_written((("each", "some", "yes"),), "each some yes")
        self.is_written((("some", "each", "yes"),), "some each yes")
        self.is_written((("some", "some", "yes"),), "some some yes")

    def test_several_demands(self):
        self.is_written((("each", "some", ("to", "x", "y")), ("some", "each", "no")), "each some xy ; some each no")
        self.is_written((("each", "each", "yes"),) * 3, "each each yes ; each each yes ; each each yes")
        self.is_written(
            (("some", "some", ("a", "x")), ("each", "each", ("not", ("to", "x", "x"))),
             ("some", "each", ("b", "y")), ("each", "some", ("both", ("a", "y"), ("to", "y", "x")))),
            "some some ax ; each each not xx ; some each by ; each some both ay yx")

    def test_plain_forms(self):
        self.form_is_written("yes", "yes")
        self.form_is_written("no", "no")

    def test_marks(self):
        self.form_is_written(("a", "x"), "ax")
        self.form_is_written(("a", "y"), "ay")
        self.form_is_written(("b", "x"), "bx")
        self.form_is_written(("b", "y"), "by")

    def test_all_four_arrows(self):
        self.form_is_written(("to", "x", "x"), "xx")
        self.form_is_written(("to", "x", "y"), "xy")
        self.form_is_written(("to", "y", "x"), "yx")
        self.form_is_written(("to", "y", "y"), "yy")

    def test_a_word_and_its_forms(self):
        self.form_is_written(("not", "yes"), "not yes")
        self.form_is_written(("both", ("a", "x"), ("b", "y")), "both ax by")
        self.form_is_written(("either", ("to", "y", "x"), "no"), "either yx no")

    def test_forms_within_forms(self):
        self.form_is_written(("not", ("not", ("a", "x"))), "not not ax")
        self.form_is_written(("both", ("either", ("a", "x"), "no"), ("not", ("to", "y", "y"))),
                             "both either ax no not yy")
        self.form_is_written(("either", "yes", ("both", ("b", "x"), ("either", "no", ("a", "y")))),
                             "either yes both bx either no ay")

    def test_forms_5_deep(self):
        self.form_is_written(wrapped(("b", "x"), lambda form: ("not", form), 5), "not not not not not bx")
        self.form_is_written(wrapped("no", lambda form: ("both", form, "yes"), 5),
                             "both both both both both no yes yes yes yes yes")
        self.form_is_written(wrapped("no", lambda form: ("either", "yes", form), 5),
                             "either yes either yes either yes either yes either yes no")

    def test_one_blank_between_each_two_words(self):
        row = tuple([("some", "some", form) for form in forms_one_deep()[-4:]])
        text = self.tell(written, row)
        self.assertNotIn("  ", text)
        self.assertEqual(text, " ".join(text.split()))
        self.assertEqual(text.count(" ; "), 3)
        self.assertEqual(text.count(";"), 3)

    def test_no_two_rows_have_one_writing(self):
        forms = list(FLAT_FORMS) + forms_one_deep()
        rows = [((one, other, form),) for one in ("each", "some") for other in ("each", "some") for form in forms]
        self.assertEqual(len(set([written(row) for row in rows])), len(rows))

    def test_somewhat_beyond_the_bounds_nothing_is_refused(self):
        self.is_written((("some", "each", "no"),) * 5, " ; ".join(["some each no"] * 5))
        self.form_is_written(wrapped("no", lambda form: ("not", form), 12), "not " * 12 + "no")


if __name__ == "__main__":
    unittest.main()
