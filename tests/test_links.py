"""0.3, 0.6, 4.2, 4.3: links, serves, alone."""

import itertools
import unittest

from plain import LINKS, all_kinds, plain_alone, plain_links, plain_serves
from samples import Asking, Chooser, FLAT_FORMS, forms_one_deep, wrapped
from twonamed.kinds import alone, kinds, links, serves

ARROW = ("to", "x", "y")
BACK = ("to", "y", "x")
BARE = (0, 0, 0)
LOOP = (0, 0, 1)
MARKED_A = (1, 0, 0)
MARKED_B = (0, 1, 0)
EVERY_KIND = list(itertools.product((0, 1), repeat=3))

# From those that are marked a to all others.
DOWN = ("both", ARROW, ("both", ("a", "x"), ("not", ("a", "y"))))


def rule(form):
    return ("each", "each", form)


def mark(form):
    return ("some", "each", form)


def turned_link(link):
    return (link[1], link[0])


class Links(Asking, unittest.TestCase):
    def test_without_a_rule_or_mark_all_links_are_there(self):
        for row in ((), (rule("yes"),), (("each", "some", "no"),), (("some", "some", ARROW), ("each", "some", BACK))):
            for one, other in itertools.product(EVERY_KIND, EVERY_KIND):
                self.tells(LINKS, links, row, one, other)

    def test_no_link_is_there_for_a_form_that_never_holds(self):
        for one, other in itertools.product(EVERY_KIND, EVERY_KIND):
            self.tells((), links, (rule("no"),), one, other)
            self.tells((), links, (rule("yes"), rule("no")), one, other)

    def test_rules_hold_for_x_and_y_and_for_y_and_x(self):
        for form in (ARROW, BACK):
            self.tells(((1, 1),), links, (rule(form),), LOOP, LOOP)
            self.tells(((0, 0),), links, (rule(("not", form)),), BARE, BARE)
        self.tells(((0, 0), (0, 1), (1, 0)), links, (rule(("not", ("both", ARROW, BACK))),), BARE, BARE)
        self.tells(((0, 1), (1, 0), (1, 1)), links, (rule(("either", ARROW, BACK)),), LOOP, MARKED_A)

    def test_rules_that_name_the_marks_of_things(self):
        up = rule(("either", ("not", ("a", "x")), ARROW))
        self.tells(((1, 0), (1, 1)), links, (up,), MARKED_A, BARE)
        self.tells(((0, 1), (1, 1)), links, (up,), BARE, MARKED_A)
        self.tells(((1, 1),), links, (up,), MARKED_A, MARKED_A)
        self.tells(LINKS, links, (up,), BARE, MARKED_B)
        back = rule(("either", ("not", ("a", "x")), BACK))
        self.tells(((0, 1), (1, 1)), links, (back,), MARKED_A, BARE)
        self.tells(((1, 0), (1, 1)), links, (back,), BARE, MARKED_A)
        behind = rule(("either", ("not", ("b", "y")), ARROW))
        self.tells(((0, 1), (1, 1)), links, (behind,), MARKED_B, BARE)
        self.tells(((1, 0), (1, 1)), links, (behind,), BARE, MARKED_B)

    def test_rules_that_name_arrows_of_things_to_themselves(self):
        sends = rule(("either", ("not", ("to", "x", "x")), ("not", ARROW)))
        self.tells(((0, 0), (0, 1)), links, (sends,), LOOP, BARE)
        self.tells(((0, 0), (1, 0)), links, (sends,), BARE, LOOP)
        self.tells(((0, 0),), links, (sends,), LOOP, LOOP)
        gets = rule(("either", ("not", ("to", "y", "y")), ("not", ARROW)))
        self.tells(((0, 0), (1, 0)), links, (gets,), LOOP, BARE)

    def test_two_things_of_the_same_kind(self):
        self.tells(((0, 1), (1, 0)), links, (rule(("not", ("both", ARROW, BACK))), rule(("either", ARROW, BACK))),
                   BARE, BARE)
        self.tells(((0, 0), (1, 1)), links, (rule(("either", ("not", ARROW), BACK)),), MARKED_A, MARKED_A)

    def test_marks_that_one_has(self):
        self.tells(((1, 0), (1, 1)), links, (mark(ARROW),), (0, 0, 1, 1), (0, 0, 0, 0))
        self.tells(((0, 1), (1, 1)), links, (mark(BACK),), (0, 0, 1, 1), (0, 0, 0, 0))
        self.tells(LINKS, links, (mark(ARROW),), (0, 0, 1, 0), (0, 0, 0, 0))

    def test_marks_that_other_has(self):
        self.tells(((0, 1), (1, 1)), links, (mark(ARROW),), (0, 0, 0, 0), (0, 0, 1, 1))
        self.tells(((1, 0), (1, 1)), links, (mark(BACK),), (0, 0, 0, 0), (0, 0, 1, 1))
        self.tells(((1, 1),), links, (mark(ARROW),), (0, 0, 1, 1), (0, 0, 1, 1))
        up = mark(("either", ("not", ("a", "y")), ARROW))
        self.tells(((0, 1), (1, 1)), links, (up,), (1, 0, 0, 0), (0, 0, 0, 1))
        self.tells(LINKS, links, (up,), (0, 0, 0, 0), (0, 0, 0, 1))

    def test_marks_that_ask_how_there_and_back_go_together(self):
        same = ("either", ("both", ARROW, BACK), ("not", ("either", ARROW, BACK)))
        for form, expected in ((same, ((0, 0), (1, 1))), (("not", same), ((0, 1), (1, 0)))):
            self.tells(expected, links, (mark(form),), (0, 0, 0, 0), (0, 0, 0, 1))
            self.tells(expected, links, (mark(form),), (0, 0, 0, 1), (0, 0, 0, 0))
            self.tells(expected, links, (rule(form),), BARE, LOOP)
            for start in (ARROW, BACK, ("not", ARROW), ("not", BACK)):
                row = (mark(form), rule(("either", ("not", ("to", "x", "x")), start)))
                for one in (0, 1):
                    self.tells(plain_links(row, (0, 0, 1, one), (0, 0, 0, 1)), links, row, (0, 0, 1, one), (0, 0, 0, 1))

    def test_several_marks(self):
        row = (mark(ARROW), ("each", "some", "no"), mark(("not", BACK)), mark("yes"))
        self.tells(((1, 0),), links, row, (0, 0, 1, 1, 1, 1), (0, 0, 0, 0, 0, 0))
        self.tells(((1, 0), (1, 1)), links, row, (0, 0, 1, 1, 0, 1), (0, 0, 0, 0, 0, 0))
        self.tells(((0, 0), (1, 0)), links, row, (0, 0, 0, 0, 1, 0), (0, 0, 0, 0, 0, 1))
        self.tells(((0, 0), (0, 1)), links, row, (0, 0, 0, 0, 0, 0), (0, 0, 0, 0, 1, 0))

    def test_two_kinds_that_clash(self):
        agree = rule(("either", ("both", ("a", "x"), ("a", "y")), ("not", ("either", ("a", "x"), ("a", "y")))))
        self.tells((), links, (agree,), MARKED_A, BARE)
        self.tells((), links, (agree,), BARE, MARKED_A)
        self.tells(LINKS, links, (agree,), MARKED_A, (1, 1, 1))
        # One has an arrow to all things, the other an arrow from none.
        row = (mark(ARROW), mark(("not", BACK)))
        self.tells((), links, row, (0, 0, 1, 1, 0), (0, 0, 0, 0, 1))
        self.tells((), links, row, (0, 0, 0, 0, 1), (0, 0, 1, 1, 0))
        self.tells(((0, 0),), links, row, (0, 0, 0, 0, 1), (0, 0, 0, 0, 1))

    def test_kinds_that_the_row_does_not_have(self):
        self.tells(((1, 1),), links, (rule(ARROW),), BARE, BARE)
        self.tells((), links, (mark("no"),), (0, 0, 0, 1), (0, 0, 0, 0))
        self.tells(LINKS, links, (mark("no"),), (0, 0, 0, 0), (0, 0, 0, 0))

    def test_each_small_form(self):
        for form in list(FLAT_FORMS) + forms_one_deep()[::9]:
            for one, other in itertools.product(EVERY_KIND, EVERY_KIND):
                row = (rule(form),)
                self.tells(plain_links(row, one, other), links, row, one, other)

    def test_many_rows(self):
        chooser = Chooser(40)
        told = []
        for marks in range(4):
            for _ in range(40):
                row = chooser.row_with_marks(marks, chooser.below(3), 5)
                for _ in range(8):
                    one, other = chooser.one_of(all_kinds(row)), chooser.one_of(all_kinds(row))
                    told.append(plain_links(row, one, other))
                    self.tells(told[-1], links, row, one, other)
                    self.assertEqual(links(row, other, one), tuple(sorted([turned_link(link) for link in told[-1]])))
        self.assertGreater(len(set(told)), 8)

    def test_a_kind_of_the_row_does_not_clash_with_itself(self):
        chooser = Chooser(41)
        for marks in range(4):
            row = chooser.row_with_marks(marks, 2, 4)
            for kind in kinds(row):
                self.assertIn((kind[2], kind[2]), links(row, kind, kind))

    def test_forms_12_deep(self):
        row = (mark(wrapped(ARROW, lambda form: ("both", form, form), 12)),
               rule(wrapped(("not", BACK), lambda form: ("either", form, form), 11)))
        self.tells((), links, row, (0, 0, 0, 1), (0, 0, 0, 0))
        self.tells(((0, 0),), links, row, (0, 0, 0, 0), (1, 0, 0, 0))


class Serves(Asking, unittest.TestCase):
    def test_the_first_link_in_order(self):
        for start in (("each", "some"), ("some", "some")):
            self.tells((0, 0), serves, (start + ("yes",),), 0, BARE, BARE)
            self.tells((1, 0), serves, (start + (ARROW,),), 0, BARE, BARE)
            self.tells((0, 1), serves, (start + (BACK,),), 0, BARE, BARE)
            self.tells((0, 1), serves, (start + (("either", ARROW, BACK),),), 0, BARE, BARE)
            self.tells((1, 1), serves, (start + (("both", ARROW, BACK),),), 0, BARE, BARE)
            self.tells((0, 0), serves, (start + (("not", ARROW),),), 0, LOOP, LOOP)

    def test_none_where_there_is_none(self):
        for start in (("each", "some"), ("some", "some")):
            self.tells(None, serves, (start + ("no",),), 0, BARE, BARE)
            self.tells(None, serves, (start + (("a", "y"),),), 0, MARKED_A, BARE)
            self.tells(None, serves, (start + (("a", "x"),),), 0, BARE, MARKED_A)

    def test_x_is_of_kind_one_and_y_of_kind_other(self):
        for start in (("each", "some"), ("some", "some")):
            row = (start + (DOWN,),)
            self.tells((1, 0), serves, row, 0, MARKED_A, BARE)
            self.tells(None, serves, row, 0, BARE, MARKED_A)
            self.tells(None, serves, row, 0, MARKED_A, MARKED_A)
            self.tells((0, 0), serves, (start + (("to", "y", "y"),),), 0, BARE, LOOP)
            self.tells(None, serves, (start + (("to", "x", "x"),),), 0, BARE, LOOP)

    def test_links_that_rules_and_marks_leave(self):
        need = ("each", "some", ARROW)
        self.tells((1, 1), serves, (rule(("either", ("not", ARROW), BACK)), need), 1, BARE, BARE)
        self.tells(None, serves, (need, rule(("not", ARROW))), 0, BARE, BARE)
        row = (need, mark(("not", BACK)))
        self.tells(None, serves, row, 0, (0, 0, 0, 0), (0, 0, 0, 1))
        self.tells((1, 0), serves, row, 0, (0, 0, 0, 1), (0, 0, 0, 0))
        self.tells((1, 0), serves, row, 0, (0, 0, 0, 0), (0, 0, 0, 0))
        want = ("some", "some", ("either", ARROW, ("not", BACK)))
        self.tells((1, 1), serves, (want, mark(BACK)), 0, (0, 0, 1, 1), (0, 0, 0, 0))

    def test_the_number_of_the_demand(self):
        row = (("each", "some", ARROW), ("some", "some", BACK), rule("yes"), ("some", "some", "no"),
               ("each", "some", "yes"))
        self.tells((1, 0), serves, row, 0, BARE, BARE)
        self.tells((0, 1), serves, row, 1, BARE, BARE)
        self.tells(None, serves, row, 3, BARE, BARE)
        self.tells((0, 0), serves, row, 4, BARE, BARE)

    def test_many_rows(self):
        chooser = Chooser(42)
        told = []
        for marks in range(4):
            for _ in range(40):
                row = chooser.row_with_marks(marks, 2, 5)
                for n in [n for n, demand in enumerate(row) if demand[1] == "some"]:
                    for _ in range(6):
                        one, other = chooser.one_of(all_kinds(row)), chooser.one_of(all_kinds(row))
                        told.append(plain_serves(row, n, one, other))
                        self.tells(told[-1], serves, row, n, one, other)
        self.assertEqual(set(told), set(LINKS + (None,)))

    def test_forms_12_deep(self):
        row = (("each", "some", wrapped(ARROW, lambda form: ("both", form, form), 12)),)
        self.tells((1, 0), serves, row, 0, BARE, BARE)


class Alone(Asking, unittest.TestCase):
    def test_both_answers(self):
        for start in (("each", "some"), ("some", "some")):
            for kind in EVERY_KIND:
                self.tells(True, alone, (start + ("yes",),), 0, kind)
                self.tells(False, alone, (start + ("no",),), 0, kind)
                self.tells(kind[0] == 1, alone, (start + (("a", "x"),),), 0, kind)
                self.tells(kind[1] == 1, alone, (start + (("b", "y"),),), 0, kind)
                for form in (("to", "x", "x"), ARROW, BACK, ("to", "y", "y")):
                    self.tells(kind[2] == 1, alone, (start + (form,),), 0, kind)
                self.tells(False, alone, (start + (DOWN,),), 0, kind)

    def test_rules_and_marks_do_not_count(self):
        row = (rule("no"), ("each", "some", ("a", "x")), mark("no"))
        self.tells(True, alone, row, 1, (1, 0, 0, 1))
        self.tells(False, alone, row, 1, (0, 0, 0, 1))

    def test_the_number_of_the_demand(self):
        row = (("each", "some", ("a", "x")), ("some", "some", ("b", "x")), ("each", "some", ARROW))
        for kind in EVERY_KIND:
            for n in range(3):
                self.tells(kind[n] == 1, alone, row, n, kind)

    def test_many_rows(self):
        chooser = Chooser(43)
        told = []
        for marks in range(4):
            for _ in range(40):
                row = chooser.row_with_marks(marks, 2, 12)
                for n in [n for n, demand in enumerate(row) if demand[1] == "some"]:
                    for _ in range(4):
                        kind = chooser.one_of(all_kinds(row))
                        told.append(plain_alone(row, n, kind))
                        self.tells(told[-1], alone, row, n, kind)
        self.assertGreater(told.count(True), 100)
        self.assertGreater(told.count(False), 100)


if __name__ == "__main__":
    unittest.main()
