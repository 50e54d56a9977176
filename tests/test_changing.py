"""0.2 (e), 0.3, 0.6, 7.1: turned, swapped, both_rows, named_back."""

import unittest

from samples import (Asking, Chooser, FLAT_FORMS, ROWS_WITHOUT_A_WORLD, ROWS_WITH_A_WORLD, STARTS, all_worlds,
                     forms_one_deep, wrapped)
from twonamed.changing import both_rows, named_back, swapped, turned
from twonamed.deciding import world_for
from twonamed.holding import demand_holds, holds
from twonamed.reading import read
from twonamed.worlds import swapped_world, turned_world
from twonamed.writing import written

SAME_WORDS = (("each", "each"), ("some", "some"))
FULL_ROW = read("each some both not xy either yx xx ; some each either ax not by ; some some yy ; each each both bx ay")
LARGE_WORLD = (7, (0, 3, 6), (1, 3), ((0, 1), (1, 2), (2, 0), (3, 3), (4, 0), (5, 6), (6, 6)))

# What becomes of each flat form, in the order of FLAT_FORMS: turned, swapped, named back.
CHANGED = {
    turned: ("yes", "no", "ax", "ay", "bx", "by", "xx", "yx", "xy", "yy"),
    swapped: ("yes", "no", "bx", "by", "ax", "ay", "xx", "xy", "yx", "yy"),
    named_back: ("yes", "no", "ay", "ax", "by", "bx", "yy", "yx", "xy", "xx"),
}


def some_worlds():
    chooser = Chooser(80)
    return all_worlds(1)[::2] + all_worlds(2)[::13] + [chooser.world(many) for many in range(3, 9)] + [LARGE_WORLD]


def some_rows():
    chooser = Chooser(81)
    return [chooser.row(many, 4) for many in range(6) for _ in range(6)]


class Told(Asking, unittest.TestCase):
    def of_forms(self, change, form):
        """The form that becomes of one, at each beginning that may stand."""
        found = []
        for start in SAME_WORDS if change == named_back else STARTS:
            demand = start + (form,)
            told = self.tell(change, demand) if change == named_back else self.tell(change, (demand,))[0]
            self.assertEqual(told[:2], start)
            self.assertEqual((type(told), len(told)), (tuple, 3))
            found.append(told[2])
        self.assertEqual(len(set(found)), 1)
        return found[0]

    def test_flat_forms(self):
        for change, texts in CHANGED.items():
            for form, text in zip(FLAT_FORMS, texts, strict=True):
                self.assertEqual(self.of_forms(change, form), read("each each " + text)[0][2])

    def test_forms_in_forms(self):
        for change in CHANGED:
            for form in forms_one_deep():
                parts = [self.of_forms(change, part) for part in form[1:]]
                self.assertEqual(self.of_forms(change, form), (form[0],) + tuple(parts))

    def test_rows(self):
        self.tells(read("each some both not yx either xy xx ; some each either ax not by ; some some yy ; "
                        "each each both bx ay"), turned, FULL_ROW)
        self.tells(read("each some both not xy either yx xx ; some each either bx not ay ; some some yy ; "
                        "each each both ax by"), swapped, FULL_ROW)

    def test_the_empty_row(self):
        self.tells((), turned, ())
        self.tells((), swapped, ())
        self.tells((), both_rows, (), ())

    def test_named_back(self):
        self.tells(("each", "each", ("both", ("b", "y"), ("a", "x"))), named_back, FULL_ROW[3])
        self.tells(("some", "some", ("to", "x", "x")), named_back, FULL_ROW[2])
        demand = read("some some either not xy both ax not either by xx")[0]
        self.tells(read("some some either not yx both ay not either bx yy")[0], named_back, demand)

    def test_twice_is_as_it_was(self):
        for row in some_rows():
            self.assertEqual(turned(turned(row)), row)
            self.assertEqual(swapped(swapped(row)), row)
            self.assertEqual(swapped(turned(row)), turned(swapped(row)))
            for demand in row:
                if demand[0] == demand[1]:
                    self.assertEqual(named_back(named_back(demand)), demand)

    def test_both_rows(self):
        one, other = FULL_ROW[:2], FULL_ROW[2:]
        self.tells(FULL_ROW, both_rows, one, other)
        self.tells(other + one, both_rows, other, one)
        self.tells(one + one, both_rows, one, one)
        self.tells(FULL_ROW, both_rows, FULL_ROW, ())
        self.tells(FULL_ROW, both_rows, (), FULL_ROW)
        self.assertEqual(len(both_rows(FULL_ROW, FULL_ROW)), 8)

    def test_forms_12_deep(self):
        for wrap in (lambda form: ("not", form), lambda form: ("both", form, form),
                     lambda form: ("either", form, "yes")):
            forms = [wrapped(form, wrap, 12) for form in (("to", "x", "y"), ("to", "y", "x"), ("a", "x"), ("b", "x"))]
            self.tells((("each", "some", forms[1]),) * 5, turned, (("each", "some", forms[0]),) * 5)
            self.tells((("some", "each", forms[3]),) * 3, swapped, (("some", "each", forms[2]),) * 3)
            self.tells(("each", "each", forms[1]), named_back, ("each", "each", forms[0]))


class Holding(unittest.TestCase):
    def test_rows_that_are_turned_or_swapped(self):
        truths = []
        for world in some_worlds():
            for row in some_rows():
                truths.append(holds(row, world))
                self.assertIs(holds(turned(row), turned_world(world)), truths[-1], (row, world))
                self.assertIs(holds(swapped(row), swapped_world(world)), truths[-1], (row, world))
        self.assertGreater(truths.count(True), 100)
        self.assertGreater(truths.count(False), 100)

    def test_a_turned_row_alone_is_another(self):
        world = (2, (0,), (), ((0, 0), (0, 1)))
        for text, change in (("some each xy", turned), ("some some ax", swapped)):
            self.assertIs(holds(read(text), world), True)
            self.assertIs(holds(change(read(text)), world), False)

    def test_both_rows(self):
        truths = []
        rows = some_rows()
        for world in some_worlds():
            for one, other in zip(rows, rows[7:] + rows[:7], strict=True):
                truths.append(holds(one, world) and holds(other, world))
                self.assertIs(holds(both_rows(one, other), world), truths[-1])
        self.assertGreater(truths.count(True), 50)
        self.assertGreater(truths.count(False), 50)

    def test_named_back_holds_likewise(self):
        chooser = Chooser(82)
        truths = []
        for world in some_worlds():
            for start in SAME_WORDS:
                for depth in range(5):
                    demand = start + (chooser.form(depth),)
                    truths.append(demand_holds(demand, world))
                    self.assertIs(demand_holds(named_back(demand), world), truths[-1], (demand, world))
        self.assertGreater(truths.count(True), 50)
        self.assertGreater(truths.count(False), 50)


class HavingAWorld(unittest.TestCase):
    def is_likewise(self, row):
        world = world_for(row)
        for change, back in ((turned, turned_world), (swapped, swapped_world)):
            changed = world_for(change(row))
            self.assertIs(changed is None, world is None, written(row) if len(row) < 5 else row)
            if world is not None:
                self.assertIs(holds(change(row), back(world)), True)
                self.assertIs(holds(row, back(changed)), True)
        return world is not None

    def test_rows_by_hand(self):
        for text in ROWS_WITH_A_WORLD:
            self.assertIs(self.is_likewise(read(text)), True)
        for text in ROWS_WITHOUT_A_WORLD:
            self.assertIs(self.is_likewise(read(text)), False)

    def test_many_rows(self):
        truths = [self.is_likewise(row) for row in some_rows()]
        self.assertGreater(truths.count(True), 5)
        self.assertGreater(truths.count(False), 5)

    def test_both_rows(self):
        chooser = Chooser(83)
        for _ in range(40):
            one, other = chooser.row(2, 2), chooser.row(2, 2)
            world = world_for(both_rows(one, other))
            if world is not None:
                self.assertIs(holds(one, world) and holds(other, world), True)
            self.assertIs(world is None, world_for(both_rows(other, one)) is None)


if __name__ == "__main__":
    unittest.main()
