"""0.3, 1.2: read."""

import itertools
import unittest

from samples import Asking, Chooser, DEEPENING, FLAT_FORMS, STARTS, forms_one_deep, pairings, wrapped
from twonamed.errors import NoText
from twonamed.reading import read
from twonamed.things import is_row
from twonamed.writing import written

SIGNS = [chr(number) for number in range(ord(" "), ord("~") + 1)]
SOME_TEXTS = (
    "-",
    "each each yes",
    "some each not xy",
    "each some either ax both not by yx",
    "some some no ; each each xx",
    "each some xy ; some each not both ax by ; each each either yy bx",
    "some each ax ; some each ay ; each some not not not not not yes ; some some both no no",
)


class Reading(Asking, unittest.TestCase):
    def is_read_back(self, row):
        self.assertTrue(is_row(row), row)
        self.tells(row, read, written(row))

    def is_no_text(self, text):
        for _ in range(2):
            with self.assertRaises(NoText, msg=repr(text)):
                read(text)

    def is_read_or_refused(self, text):
        """Whether it is read; then it is the very writing of what is told."""
        try:
            row = read(text)
        except NoText:
            return False
        self.assertTrue(is_row(row), text)
        self.assertEqual(written(row), text)
        return True

    def test_what_is_read(self):
        self.tells((), read, "-")
        self.tells((("each", "some", "yes"),), read, "each some yes")
        self.tells((("some", "each", ("to", "x", "y")),), read, "some each xy")
        self.tells((("each", "some", ("to", "x", "y")), ("some", "each", ("not", ("both", ("a", "x"), ("b", "y"))))),
                   read, "each some xy ; some each not both ax by")
        self.tells((("some", "some", ("either", ("not", "no"), ("both", ("a", "y"), ("to", "y", "x")))),),
                   read, "some some either not no both ay yx")

    def test_each_flat_form(self):
        words = ("yes", "no", "ax", "ay", "bx", "by", "xx", "xy", "yx", "yy")
        for word, form in zip(words, FLAT_FORMS, strict=True):
            self.tells((("each", "each", form),), read, "each each " + word)

    def test_one_demand_of_each_kind_is_read_back(self):
        for start in STARTS:
            for form in list(FLAT_FORMS) + forms_one_deep():
                self.is_read_back((start + (form,),))

    def test_forms_2_deep_are_read_back(self):
        parts = ["yes", ("a", "x"), ("to", "y", "x"), ("not", ("b", "y")), ("both", "no", ("a", "y")),
                 ("either", ("to", "x", "x"), "yes")]
        for form in [("not", part) for part in parts] + pairings(parts):
            self.is_read_back((("each", "some", form),))

    def test_rows_of_0_to_4_demands_are_read_back(self):
        chooser = Chooser(1)
        found = 0
        for many in range(5):
            for _ in range(300):
                row = chooser.row(many, 5)
                if is_row(row):
                    self.is_read_back(row)
                    found += 1
        self.assertGreater(found, 1200)

    def test_every_choice_of_words_in_1_to_5_demands(self):
        for many in range(1, 6):
            for starts in itertools.product(STARTS, repeat=many):
                row = tuple([start + ("yes",) for start in starts])
                if many <= 4 and starts.count(("some", "each")) <= 2:
                    self.assertEqual(read(written(row)), row)
                else:
                    self.is_no_text(written(row))

    def test_the_empty_text(self):
        self.is_no_text("")

    def test_blanks(self):
        for text in SOME_TEXTS:
            for wrong in (" " + text, text + " ", " " + text + " ", "  " + text, text + "  "):
                self.is_no_text(wrong)
            for place in [place for place, sign in enumerate(text) if sign == " "]:
                self.is_no_text(text[:place] + " " + text[place:])
                self.is_no_text(text[:place] + text[place + 1:])
        for text in (" ", "  ", " " * 100):
            self.is_no_text(text)

    def test_a_word_too_few_or_too_many(self):
        for text in ("each", "each some", "each some not", "each some both", "each some both yes", "each some either",
                     "each some either ax", "each some both not ax", "each some both either ax yes", "yes", "each yes",
                     "some xy", "not yes", "both ax ay", "xy"):
            self.is_no_text(text)
        for text in ("each some yes yes", "each some ax by", "each some not ax ay", "each some both ax ay yes",
                     "each some either no no not", "each some yes each", "each each each yes", "each some xy -",
                     "each each yes each each yes", "each each yes ;", "; each each yes"):
            self.is_no_text(text)

    def test_wrong_words(self):
        for wrong in ("Yes", "YES", "y", "x", "a", "b", "xa", "xb", "cx", "az", "xz", "xyx", "to", "x y", "and", "or",
                      "each", "some", ";", "-", "0", "1", "True", "None", "('a',", "\"yes\"", "yesno", "axx"):
            self.is_no_text("each some " + wrong)
            self.is_no_text("each some not " + wrong)
            self.is_no_text("each some both ax " + wrong)
            self.is_no_text("each each yes ; some some " + wrong)
            self.is_no_text("each each " + wrong + " ; some some yes")
        for wrong in ("Each", "SOME", "all", "any", "none", "x", "yes", "not", "both", "-", ";", "eachsome", "each,"):
            self.is_no_text(wrong + " each yes")
            self.is_no_text("some " + wrong + " yes")
            self.is_no_text("each each yes ; " + wrong + " each yes")
            self.is_no_text("each each yes ; some " + wrong + " yes")
        for wrong in ("And yes", "nor yes no", "Not yes", "NOT yes", "Both yes no", "EITHER yes no", "to x y", "a x"):
            self.is_no_text("each some " + wrong)

    def test_between_demands(self):
        one = "each each yes"
        for between in (";", "; ", " ;", "  ;  ", "  ; ", " ;  ", " ; ; ", " ;; ", " , ", " - ", " ", "", " and "):
            self.is_no_text(one + between + one)
        for text in (" ; ", ";", " ; " + one, one + " ; ", one + " ; " + one + " ; ", one + " ;", "; " + one):
            self.is_no_text(text)

    def test_nothing_beside_a_demand(self):
        for text in ("- ; each each yes", "each each yes ; -", "- each each yes", "each each yes -", "- ; -", "- -",
                     "--", " -", "- ", "each each -", "each each yes ; - ; each each yes", "-each each yes"):
            self.is_no_text(text)

    def test_5_demands(self):
        for one in ("each each yes", "some some xy", "each some not ax"):
            self.assertEqual(len(read(" ; ".join([one] * 4))), 4)
            for many in (5, 6, 50, 3000):
                self.is_no_text(" ; ".join([one] * many))

    def test_3_that_begin_with_some_and_then_each(self):
        mark = "some each xy"
        plain = "each some ax"
        for parts in ((mark,) * 2, (mark, plain, mark), (plain, mark, mark, plain)):
            self.assertEqual(len(read(" ; ".join(parts))), len(parts))
        for parts in ((mark,) * 3, (mark,) * 4, (mark, mark, plain, mark), (plain, mark, mark, mark)):
            self.is_no_text(" ; ".join(parts))

    def test_forms_5_and_6_deep(self):
        for flat in FLAT_FORMS:
            for wrap in DEEPENING:
                for start in STARTS:
                    self.is_read_back((start + (wrapped(flat, wrap, 5),),))
                    for times in (6, 7):
                        self.is_no_text(written((start + (wrapped(flat, wrap, times),),)))

    def test_5_and_6_deep_by_mixed_words(self):
        for wraps in itertools.product(DEEPENING[:5], repeat=4):
            form = ("not", ("to", "x", "y"))
            for wrap in wraps:
                form = wrap(form)
            self.is_read_back((("each", "each", form),))
            for deeper in (("not", form), ("both", form, "yes"), ("either", "yes", form)):
                self.is_no_text(written((("each", "each", deeper),)))

    def test_very_many_words(self):
        for many in (6, 100, 300, 999, 1001, 20000):
            self.is_no_text("each some " + "not " * many + "yes")
            self.is_no_text("each some " + "not " * many)
            self.is_no_text("each some" + " not" * many)
            self.is_no_text("each some " + "both " * many + "yes")
            self.is_no_text("each some " + "either yes " * many + "yes")
            self.is_no_text("each some " + "yes " * many + "yes")
            self.is_no_text("each " * many + "yes")

    def test_all_texts_of_1_or_2_signs(self):
        texts = SIGNS + [one + other for one in SIGNS for other in SIGNS]
        self.assertEqual([text for text in texts if self.is_read_or_refused(text)], ["-"])

    def test_just_the_writings_of_all_texts_of_up_to_5_words(self):
        flat = {"yes": "yes", "ax": ("a", "x"), "yx": ("to", "y", "x")}
        forms = list(flat.values()) + [("not", form) for form in flat.values()]
        forms += [("not", ("not", form)) for form in flat.values()] + pairings(flat.values())
        right = set(["-"] + [written((start + (form,),)) for start in STARTS for form in forms])
        words = ["each", "some", "not", "both", "either", ";", "-", ""] + list(flat)
        found = set()
        for many in range(1, 6):
            for chosen in itertools.product(words, repeat=many):
                text = " ".join(chosen)
                if self.is_read_or_refused(text):
                    found.add(text)
        self.assertEqual(found, right)

    def test_texts_changed_by_one_sign(self):
        for text in SOME_TEXTS:
            self.assertTrue(self.is_read_or_refused(text))
            for place in range(len(text) + 1):
                self.is_read_or_refused(text[:place] + text[place + 1:])
                for sign in SIGNS:
                    self.is_read_or_refused(text[:place] + sign + text[place:])
                    self.is_read_or_refused(text[:place] + sign + text[place + 1:])

    def test_texts_changed_by_one_word(self):
        words = "each some yes no ax by xy yx not both either ; - x".split()
        read_ones = 0
        for text in SOME_TEXTS:
            parts = text.split(" ")
            for place in range(len(parts) + 1):
                self.is_read_or_refused(" ".join(parts[:place] + parts[place + 1:]))
                for word in words:
                    read_ones += self.is_read_or_refused(" ".join(parts[:place] + [word] + parts[place:]))
                    read_ones += self.is_read_or_refused(" ".join(parts[:place] + [word] + parts[place + 1:]))
        self.assertGreater(read_ones, 100)

    def test_texts_of_any_signs(self):
        chooser = Chooser(2)
        for many in range(60):
            for _ in range(20):
                self.is_read_or_refused("".join([chooser.one_of(SIGNS) for _ in range(many)]))
                self.is_read_or_refused("".join([chooser.one_of("eachsomxyb ;-") for _ in range(many)]))


if __name__ == "__main__":
    unittest.main()
