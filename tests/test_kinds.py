"""0.3, 0.4, 0.6, 4.1: kind_of, kinds."""

import itertools
import unittest

from plain import all_kinds, plain_kind_of, plain_kinds
from samples import Asking, Chooser, FLAT_FORMS, SOME_WORLD, STARTS, all_worlds, forms_one_deep, full_world, wrapped
from twonamed.holding import holds
from twonamed.kinds import kind_of, kinds

ARROW = ("to", "x", "y")
BACK = ("to", "y", "x")
EVERY_KIND = tuple(itertools.product((0, 1), repeat=3))

# Thing 0 is marked a, 1 is marked b and has an arrow to itself, 2 both, with arrows to all, 3 neither.
WORLD = (4, (0, 2), (1, 2), ((0, 1), (1, 1), (2, 0), (2, 1), (2, 2), (2, 3), (3, 0), (3, 1), (3, 2)))


def mark(form):
    return ("some", "each", form)


class KindOf(Asking, unittest.TestCase):
    def are_of_kinds(self, expected, row, world):
        for k, kind in enumerate(expected):
            self.tells(kind, kind_of, row, world, k)

    def test_rows_without_a_mark(self):
        bare = ((1, 0, 0), (0, 1, 1), (1, 1, 1), (0, 0, 0))
        self.are_of_kinds(bare, (), WORLD)
        for one, other in STARTS:
            if (one, other) != ("some", "each"):
                self.are_of_kinds(bare, ((one, other, ARROW),), WORLD)
                self.are_of_kinds(bare, ((one, other, "no"), (one, other, "yes")), WORLD)

    def test_all_settings_of_one_thing(self):
        for kind in EVERY_KIND:
            world = (1, (0,) * kind[0], (0,) * kind[1], ((0, 0),) * kind[2])
            self.tells(kind, kind_of, (), world, 0)
            self.tells(kind + (kind[2],), kind_of, (mark(ARROW),), world, 0)

    def test_one_mark(self):
        self.are_of_kinds(((1, 0, 0, 0), (0, 1, 1, 0), (1, 1, 1, 1), (0, 0, 0, 0)), (mark(ARROW),), WORLD)
        self.are_of_kinds(((1, 0, 0, 1), (0, 1, 1, 1), (1, 1, 1, 1), (0, 0, 0, 1)), (mark("yes"),), WORLD)
        self.are_of_kinds(((1, 0, 0, 0), (0, 1, 1, 0), (1, 1, 1, 0), (0, 0, 0, 0)), (mark("no"),), WORLD)
        self.are_of_kinds(((1, 0, 0, 1), (0, 1, 1, 0), (1, 1, 1, 1), (0, 0, 0, 0)), (mark(("a", "x")),), WORLD)
        self.are_of_kinds(((1, 0, 0, 0), (0, 1, 1, 1), (1, 1, 1, 0), (0, 0, 0, 0)), (mark(BACK),), WORLD)

    def test_a_form_that_fails_for_a_single_y(self):
        # Thing 3 has arrows to all but itself.
        self.tells((0, 0, 0, 0), kind_of, (mark(ARROW),), WORLD, 3)
        self.tells((0, 0, 1, 1), kind_of, (mark(ARROW),), (2, (), (), ((0, 0), (0, 1))), 0)
        for left_out in range(6):
            arrows = tuple([(5, k) for k in range(6) if k != left_out])
            own = int(left_out != 5)
            self.tells((0, 0, own, 0), kind_of, (mark(ARROW),), (6, (), (), arrows), 5)
            self.tells((0, 0, 1, 1), kind_of, (mark(ARROW),), (6, (), (), tuple([(5, k) for k in range(6)])), 5)

    def test_a_mark_is_had_for_all_y_whether_or_not_it_is_had_for_itself(self):
        other = ("either", ARROW, ("not", ("b", "x")))
        self.are_of_kinds(((1, 0, 0, 1), (0, 1, 1, 0), (1, 1, 1, 1), (0, 0, 0, 1)), (mark(other),), WORLD)

    def test_marks_in_their_order(self):
        row = (("each", "some", "no"), mark(ARROW), ("each", "each", "no"), mark(("b", "x")), ("some", "some", "yes"))
        self.are_of_kinds(((1, 0, 0, 0, 0), (0, 1, 1, 0, 1), (1, 1, 1, 1, 1), (0, 0, 0, 0, 0)), row, WORLD)
        self.are_of_kinds(((1, 0, 0, 0, 0), (0, 1, 1, 1, 0), (1, 1, 1, 1, 1), (0, 0, 0, 0, 0)),
                          (row[3], row[1]), WORLD)
        three = (mark(("not", ("b", "x"))), mark(BACK), mark(("a", "x")))
        self.are_of_kinds(((1, 0, 0, 1, 0, 1), (0, 1, 1, 0, 1, 0), (1, 1, 1, 0, 0, 1), (0, 0, 0, 1, 0, 0)),
                          three, WORLD)

    def test_the_same_mark_twice(self):
        self.tells((1, 1, 1, 1, 1), kind_of, (mark(ARROW), mark(ARROW)), WORLD, 2)
        self.tells((0, 0, 0, 0, 0), kind_of, (mark(ARROW), mark(ARROW)), WORLD, 3)

    def test_forms_12_deep(self):
        for form in (wrapped(ARROW, lambda form: ("both", form, form), 12),
                     wrapped(ARROW, lambda form: ("not", form), 12)):
            self.are_of_kinds(((1, 0, 0, 0), (0, 1, 1, 0), (1, 1, 1, 1), (0, 0, 0, 0)), (mark(form),), WORLD)

    def test_many_rows_and_worlds(self):
        chooser = Chooser(30)
        told = []
        for marks in range(4):
            for size in range(1, 8):
                for _ in range(5):
                    row, world = chooser.row_with_marks(marks, chooser.below(3), 12), chooser.world(size)
                    for k in range(size):
                        told.append(plain_kind_of(row, world, k))
                        self.tells(told[-1], kind_of, row, world, k)
        for length in (3, 4, 5, 6):
            for setting in (0, 1):
                self.assertGreater(len([kind for kind in told if len(kind) == length and kind[-1] == setting]), 3)


class Kinds(Asking, unittest.TestCase):
    def test_the_empty_row_has_all_kinds(self):
        self.tells(EVERY_KIND, kinds, ())

    def test_demands_that_begin_with_each_and_each(self):
        self.tells(EVERY_KIND, kinds, (("each", "each", "yes"),))
        self.tells((), kinds, (("each", "each", "no"),))
        self.tells(((1, 0, 0), (1, 0, 1), (1, 1, 0), (1, 1, 1)), kinds, (("each", "each", ("a", "y")),))
        self.tells(((0, 0, 1), (0, 1, 1), (1, 0, 1), (1, 1, 1)), kinds, (("each", "each", ARROW),))
        self.tells(((0, 0, 1), (0, 1, 1), (1, 0, 1), (1, 1, 1)), kinds, (("each", "each", BACK),))
        self.tells(((1, 0, 0), (1, 1, 0)), kinds, (("each", "each", ("a", "x")), ("each", "each", ("not", ARROW))))
        apart = ("both", ("a", "x"), ("not", ("a", "y")))
        self.tells((), kinds, (("each", "each", apart),))
        self.tells(EVERY_KIND, kinds, (("each", "each", ("not", apart)),))

    def test_demands_that_begin_with_some_at_the_second_place(self):
        for form in ("no", ("a", "x"), ARROW):
            self.tells(EVERY_KIND, kinds, (("each", "some", form),))
            self.tells(EVERY_KIND, kinds, (("some", "some", form), ("each", "some", form)))

    def test_marks(self):
        bare = tuple([kind + (0,) for kind in EVERY_KIND])
        self.tells(bare, kinds, (mark("no"),))
        self.tells(tuple(itertools.product((0, 1), repeat=4)), kinds, (mark("yes"),))
        marked = tuple([kind for kind in itertools.product((0, 1), repeat=4) if kind[3] <= kind[2]])
        self.tells(marked, kinds, (mark(ARROW),))
        self.tells(tuple([kind for kind in marked if kind[0] == 1]), kinds,
                   (mark(ARROW), ("each", "each", ("a", "x"))))

    def test_a_thing_that_is_no_mark_may_keep_to_its_form(self):
        self.assertIn((0, 0, 0, 0), kinds((mark("yes"),)))
        self.assertIn((1, 0, 0, 0), kinds((mark(("a", "x")),)))

    def test_two_and_three_marks_in_their_order(self):
        row = (mark(("a", "x")), ("each", "each", ("b", "x")), mark(("not", ("a", "y"))))
        expected = ((0, 1, 0, 0, 0), (0, 1, 0, 0, 1), (0, 1, 1, 0, 0), (0, 1, 1, 0, 1),
                    (1, 1, 0, 0, 0), (1, 1, 0, 1, 0), (1, 1, 1, 0, 0), (1, 1, 1, 1, 0))
        self.tells(expected, kinds, row)
        self.assertEqual(len(kinds((mark("yes"),) * 3)), 64)
        self.assertEqual(len(kinds((mark("yes"), mark("no"), mark("yes")))), 32)

    def test_each_beginning_with_each_small_form(self):
        for form in list(FLAT_FORMS) + forms_one_deep()[::3]:
            for start in STARTS:
                row = (start + (form,),)
                self.tells(plain_kinds(row), kinds, row)

    def test_many_rows(self):
        chooser = Chooser(31)
        told = []
        for many in range(6):
            for _ in range(40):
                row = chooser.row(many, 7)
                told.append(plain_kinds(row))
                self.tells(told[-1], kinds, row)
                self.assertEqual(list(told[-1]), sorted(set(told[-1])))
                self.assertTrue(set(told[-1]) <= set(all_kinds(row)))
        self.assertGreater(len(set(told)), 50)

    def test_forms_12_deep(self):
        row = (mark(wrapped(ARROW, lambda form: ("both", form, form), 12)),
               ("each", "each", wrapped(("a", "x"), lambda form: ("either", form, form), 12)))
        self.tells(kinds((mark(ARROW), ("each", "each", ("a", "x")))), kinds, row)

    def test_things_of_worlds_in_which_the_row_holds_are_of_its_kinds(self):
        chooser = Chooser(32)
        seen = 0
        for world in all_worlds(1) + all_worlds(2)[::9] + [WORLD, SOME_WORLD, full_world(6)]:
            for many in range(4):
                row = chooser.row(many, 3)
                if holds(row, world):
                    seen += 1
                    for k in range(world[0]):
                        self.assertIn(kind_of(row, world, k), kinds(row), (row, world))
        self.assertGreater(seen, 50)


if __name__ == "__main__":
    unittest.main()
