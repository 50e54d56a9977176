"""0.3, 0.6, 1.1: is_row."""

import itertools
import unittest

from samples import (Asking, FLAT_FORMS, ODD_THINGS, STARTS, forms_one_deep, swapped_part, too_few_or_many,
                     with_list_at_each_level, wrapped)
from twonamed.things import is_row

MARK = ("some", "each", ("to", "x", "y"))
PLAIN = ("each", "some", ("both", ("a", "x"), ("not", ("to", "y", "x"))))


class Rows(Asking, unittest.TestCase):
    def test_the_empty_row(self):
        self.is_told(is_row, True, [()])

    def test_one_demand_of_each_kind(self):
        forms = list(FLAT_FORMS) + forms_one_deep()
        self.is_told(is_row, True, [((one, other, form),) for one, other in STARTS for form in forms])

    def test_0_to_4_demands(self):
        for many in range(5):
            self.is_told(is_row, True, [(PLAIN,) * many])
        for many in (5, 6, 9):
            self.is_told(is_row, False, [(PLAIN,) * many])

    def test_every_choice_of_words_in_0_to_5_demands(self):
        for many in range(6):
            for starts in itertools.product(STARTS, repeat=many):
                row = tuple([(one, other, "yes") for one, other in starts])
                self.is_told(is_row, many <= 4 and starts.count(("some", "each")) <= 2, [row])

    def test_2_and_3_that_begin_with_some_and_then_each(self):
        self.is_told(is_row, True, [
            (MARK,), (MARK, MARK), (MARK, PLAIN, MARK), (PLAIN, MARK, MARK, PLAIN), (MARK, PLAIN, PLAIN, MARK),
        ])
        self.is_told(is_row, False, [
            (MARK, MARK, MARK), (MARK, PLAIN, MARK, MARK), (PLAIN, MARK, MARK, MARK), (MARK,) * 4,
        ])

    def test_other_words_are_not_counted(self):
        for start in (("each", "each"), ("each", "some"), ("some", "some")):
            self.is_told(is_row, True, [(start + ("yes",),) * many for many in (3, 4)])

    def test_a_demand_that_is_no_triple(self):
        for extra in ("yes", "each", None, PLAIN):
            for wrong in too_few_or_many(PLAIN, extra):
                self.is_told(is_row, False, [(wrong,), (wrong, PLAIN), (PLAIN, MARK, wrong)])
        self.is_told(is_row, False, [(thing,) for thing in ODD_THINGS])
        self.is_told(is_row, False, [(PLAIN, thing) for thing in ODD_THINGS])

    def test_a_demand_is_no_row(self):
        self.is_told(is_row, False, [(one, other, form) for one, other in STARTS for form in FLAT_FORMS])

    def test_wrong_words(self):
        for wrong in ("Each", "all", "any", "", "none", "yes", "x", "each ", 0, 1, True, None, (), [], ["each"],
                      ("some",)):
            for place in (0, 1):
                demand = swapped_part(PLAIN, place, wrong)
                self.is_told(is_row, False, [(demand,), (PLAIN, demand), (demand, MARK, PLAIN)])

    def test_a_wrong_form(self):
        for thing in ODD_THINGS:
            demand = ("each", "some", thing)
            self.is_told(is_row, False, [(demand,), (PLAIN, demand), (PLAIN, PLAIN, PLAIN, demand)])
            self.is_told(is_row, False, [(("some", "each", ("not", thing)),)])

    def test_forms_5_and_6_deep(self):
        for wrap in (lambda form: ("not", form), lambda form: ("both", "yes", form), lambda form: ("either", form, form)):
            for start in STARTS:
                self.is_told(is_row, True, [(PLAIN, start + (wrapped(("b", "y"), wrap, 5),))])
                self.is_told(is_row, False, [(PLAIN, start + (wrapped(("b", "y"), wrap, 6),))])

    def test_a_list_in_the_place_of_a_tuple_at_each_level(self):
        row = (PLAIN, MARK, ("each", "each", "yes"))
        wrong = with_list_at_each_level(row)
        self.assertEqual(len(wrong), 9)
        self.is_told(is_row, False, wrong)
        self.is_told(is_row, False, [[], [PLAIN], (list(PLAIN),), [list(PLAIN)]])

    def test_things_that_are_no_rows(self):
        self.is_told(is_row, False, ODD_THINGS)
        self.is_told(is_row, False, FLAT_FORMS)

    def test_things_some_thirty_deep(self):
        self.is_not_told_of_deep_things(is_row)


if __name__ == "__main__":
    unittest.main()
