"""0.2 (a), 0.3, 0.4, 0.5, 0.6, 2.1: form_holds, demand_holds, holds, failing, contrary."""

import unittest

from samples import (Asking, Chooser, FLAT_FORMS, SOME_WORLD, STARTS, all_worlds, forms_one_deep, full_world, is_kept,
                     pairs_where, wrapped)
from twonamed.holding import contrary, demand_holds, failing, form_holds, holds

# Thing 0 is marked a, 1 is marked b, 2 both, 3 neither.
WORLD = (4, (0, 2), (1, 2), ((0, 0), (0, 1), (1, 2), (3, 0)))

# An arrow from each thing to the one behind it, round and round; thing 0 is marked a, all but the last one b.
RING = (7, (0,), (0, 1, 2, 3, 4, 5), ((0, 1), (1, 2), (2, 3), (3, 4), (4, 5), (5, 6), (6, 0)))

ARROW = ("to", "x", "y")
RIGHT = ("each", "some", "yes")
WRONG = ("each", "some", "no")


class FormHolds(Asking, unittest.TestCase):
    def holds_just_for(self, form, pairs):
        for x in range(4):
            for y in range(4):
                self.tells((x, y) in pairs, form_holds, form, WORLD, x, y)

    def test_yes_and_no(self):
        self.holds_just_for("yes", [(x, y) for x in range(4) for y in range(4)])
        self.holds_just_for("no", [])

    def test_marks(self):
        self.holds_just_for(("a", "x"), [(x, y) for x in (0, 2) for y in range(4)])
        self.holds_just_for(("a", "y"), [(x, y) for x in range(4) for y in (0, 2)])
        self.holds_just_for(("b", "x"), [(x, y) for x in (1, 2) for y in range(4)])
        self.holds_just_for(("b", "y"), [(x, y) for x in range(4) for y in (1, 2)])

    def test_arrows(self):
        self.holds_just_for(("to", "x", "y"), [(0, 0), (0, 1), (1, 2), (3, 0)])
        self.holds_just_for(("to", "y", "x"), [(0, 0), (1, 0), (2, 1), (0, 3)])
        self.holds_just_for(("to", "x", "x"), [(0, y) for y in range(4)])
        self.holds_just_for(("to", "y", "y"), [(x, 0) for x in range(4)])

    def test_not_both_either(self):
        self.holds_just_for(("not", "no"), [(x, y) for x in range(4) for y in range(4)])
        self.holds_just_for(("not", ("a", "x")), [(x, y) for x in (1, 3) for y in range(4)])
        self.holds_just_for(("both", ("a", "x"), ("b", "y")), [(0, 1), (0, 2), (2, 1), (2, 2)])
        self.holds_just_for(("both", ARROW, ("to", "y", "x")), [(0, 0)])
        self.holds_just_for(("either", ARROW, ("to", "y", "x")),
                            [(0, 0), (0, 1), (1, 0), (1, 2), (2, 1), (0, 3), (3, 0)])
        self.holds_just_for(("not", ("either", ("a", "x"), ("b", "x"))), [(3, y) for y in range(4)])
        self.holds_just_for(("both", ("not", ("a", "x")), ("either", ARROW, ("to", "y", "y"))),
                            [(1, 0), (1, 2), (3, 0)])

    def test_both_and_either_of_each_two_truths(self):
        for one in (True, False):
            for other in (True, False):
                forms = ("yes" if one else "no", "yes" if other else "no")
                self.tells(one and other, form_holds, ("both",) + forms, WORLD, 0, 1)
                self.tells(one or other, form_holds, ("either",) + forms, WORLD, 0, 1)

    def test_forms_in_all_worlds_with_1_or_2_things(self):
        for world in all_worlds(1) + all_worlds(2)[::5]:
            for form in list(FLAT_FORMS) + forms_one_deep():
                pairs = pairs_where(form, world)
                for x in range(world[0]):
                    for y in range(world[0]):
                        self.assertIs(form_holds(form, world, x, y), (x, y) in pairs, (form, world, x, y))

    def test_forms_up_to_12_deep_in_worlds_with_up_to_9_things(self):
        chooser = Chooser(3)
        truths = []
        for depth in range(14):
            for many in range(1, 10):
                form, world = chooser.form(depth), chooser.world(many)
                pairs = pairs_where(form, world)
                for x in range(many):
                    for y in range(many):
                        truths.append(self.tell(form_holds, form, world, x, y))
                        self.assertIs(truths[-1], (x, y) in pairs, (form, world, x, y))
        self.assertGreater(truths.count(True), 100)
        self.assertGreater(truths.count(False), 100)

    def test_full_forms_12_deep(self):
        for x, y in ((0, 1), (1, 0), (2, 2)):
            arrow = (x, y) in WORLD[3]
            self.tells(arrow, form_holds, wrapped(ARROW, lambda form: ("not", form), 12), WORLD, x, y)
            self.tells(not arrow, form_holds, wrapped(ARROW, lambda form: ("not", form), 11), WORLD, x, y)
            self.tells(arrow, form_holds, wrapped(ARROW, lambda form: ("both", form, form), 12), WORLD, x, y)
            self.tells(arrow, form_holds, wrapped(ARROW, lambda form: ("either", form, form), 12), WORLD, x, y)

    def test_things_behind_the_4th(self):
        self.tells(True, form_holds, ARROW, RING, 5, 6)
        self.tells(True, form_holds, ARROW, RING, 6, 0)
        self.tells(False, form_holds, ARROW, RING, 6, 5)
        self.tells(True, form_holds, ("b", "x"), RING, 5, 6)
        self.tells(False, form_holds, ("b", "y"), RING, 5, 6)


class DemandHolds(Asking, unittest.TestCase):
    def is_kept_by_starts(self, form, world, truths):
        for start, truth in zip(STARTS, truths, strict=True):
            self.tells(truth, demand_holds, start + (form,), world)

    # The truths stand for each each, each some, some each, some some.
    def test_all_four_beginnings(self):
        self.is_kept_by_starts(ARROW, (2, (), (), ()), (False, False, False, False))
        self.is_kept_by_starts(ARROW, (2, (), (), ((0, 1),)), (False, False, False, True))
        self.is_kept_by_starts(ARROW, (2, (), (), ((0, 0), (1, 1))), (False, True, False, True))
        self.is_kept_by_starts(ARROW, (2, (), (), ((0, 1), (1, 0))), (False, True, False, True))
        self.is_kept_by_starts(ARROW, (2, (), (), ((1, 0), (1, 1))), (False, False, True, True))
        self.is_kept_by_starts(ARROW, (2, (), (), ((0, 1), (1, 0), (1, 1))), (False, True, True, True))
        self.is_kept_by_starts(ARROW, full_world(2), (True, True, True, True))

    def test_x_is_named_first(self):
        to_all = (3, (), (), ((2, 0), (2, 1), (2, 2)))
        self.is_kept_by_starts(("to", "x", "y"), to_all, (False, False, True, True))
        self.is_kept_by_starts(("to", "y", "x"), to_all, (False, True, False, True))
        self.is_kept_by_starts(("to", "x", "x"), to_all, (False, False, True, True))
        self.is_kept_by_starts(("to", "y", "y"), to_all, (False, True, False, True))
        self.is_kept_by_starts(("a", "x"), (2, (1,), (), ()), (False, False, True, True))
        self.is_kept_by_starts(("a", "y"), (2, (1,), (), ()), (False, True, False, True))

    def test_x_and_y_may_be_the_same_thing(self):
        apart = ("both", ("a", "x"), ("not", ("a", "y")))
        self.is_kept_by_starts(apart, (1, (0,), (), ()), (False, False, False, False))
        self.is_kept_by_starts(ARROW, (1, (), (), ((0, 0),)), (True, True, True, True))
        self.is_kept_by_starts(ARROW, (2, (), (), ((0, 1),)), (False, False, False, True))

    def test_yes_and_no(self):
        for world in (WORLD, RING, SOME_WORLD, (1, (), (), ()), full_world(8)):
            self.is_kept_by_starts("yes", world, (True,) * 4)
            self.is_kept_by_starts("no", world, (False,) * 4)

    def test_worlds_with_more_than_4_things(self):
        self.is_kept_by_starts(ARROW, RING, (False, True, False, True))
        self.is_kept_by_starts(ARROW, full_world(9), (True,) * 4)
        last = (6, (5,), (), tuple([(5, k) for k in range(6)]))
        self.is_kept_by_starts(ARROW, last, (False, False, True, True))
        self.is_kept_by_starts(("both", ("a", "x"), ("not", ("a", "y"))), last, (False, False, False, True))
        self.is_kept_by_starts(("either", ("b", "x"), ("to", "x", "y")), RING, (False, True, True, True))

    def test_in_all_worlds_with_1_or_2_things(self):
        for world in all_worlds(1) + all_worlds(2)[::7]:
            for form in list(FLAT_FORMS) + forms_one_deep():
                for start in STARTS:
                    demand = start + (form,)
                    self.assertIs(demand_holds(demand, world), is_kept(demand, world), (demand, world))

    def test_deep_demands_in_large_worlds(self):
        chooser = Chooser(4)
        for depth in range(13):
            for many in range(1, 10):
                demand, world = chooser.demand(depth), chooser.world(many)
                self.tells(is_kept(demand, world), demand_holds, demand, world)


class RowHolds(Asking, unittest.TestCase):
    def fails_at(self, n, row, world):
        self.tells(n, failing, row, world)
        self.tells(n is None, holds, row, world)

    def test_the_empty_row(self):
        for world in all_worlds(1) + [WORLD, RING, SOME_WORLD, full_world(8)]:
            self.fails_at(None, (), world)

    def test_rows_that_hold(self):
        for many in range(1, 6):
            self.fails_at(None, (RIGHT,) * many, WORLD)
        self.fails_at(None, (("each", "some", ARROW), ("some", "some", ("a", "x")), ("some", "each", ("b", "x"))), RING)

    def test_one_demand_fails(self):
        for many in range(1, 6):
            for n in range(many):
                row = tuple([WRONG if k == n else RIGHT for k in range(many)])
                self.fails_at(n, row, WORLD)
                self.fails_at(n, row, RING)

    def test_several_demands_fail(self):
        self.fails_at(0, (WRONG, WRONG), WORLD)
        self.fails_at(0, (WRONG, RIGHT, WRONG), WORLD)
        self.fails_at(1, (RIGHT, WRONG, WRONG), WORLD)
        self.fails_at(1, (RIGHT, WRONG, RIGHT, WRONG), WORLD)
        self.fails_at(2, (RIGHT, RIGHT, WRONG, RIGHT, WRONG), WORLD)
        self.fails_at(0, (WRONG,) * 5, WORLD)

    def test_rows_in_a_world(self):
        each_sends = ("each", "some", ARROW)
        all_marked = ("each", "each", ("a", "x"))
        one_unmarked = ("some", "some", ("not", ("b", "x")))
        self.fails_at(0, (each_sends, all_marked), WORLD)
        self.fails_at(0, (all_marked, one_unmarked), RING)
        self.fails_at(1, (each_sends, all_marked, one_unmarked), RING)
        self.fails_at(None, (each_sends, one_unmarked), RING)

    def test_3_that_begin_with_some_and_then_each(self):
        mark = ("some", "each", ("b", "x"))
        self.fails_at(None, (mark, RIGHT, mark, mark, RIGHT), RING)
        self.fails_at(3, (mark, RIGHT, mark, ("some", "each", ARROW), RIGHT), RING)

    def test_rows_of_0_to_5_demands_with_forms_up_to_12_deep(self):
        chooser = Chooser(5)
        told = []
        for many in range(6):
            for size in range(1, 10):
                for _ in range(6):
                    row, world = chooser.row(many, 12), chooser.world(size)
                    wrong = [n for n in range(many) if not is_kept(row[n], world)]
                    self.fails_at(wrong[0] if wrong else None, row, world)
                    told.append(wrong[0] if wrong else None)
        for n in (0, 1, 2, 3, None):
            self.assertGreater(told.count(n), 2)


class Contrary(Asking, unittest.TestCase):
    def test_all_four_beginnings(self):
        for form in list(FLAT_FORMS) + forms_one_deep():
            self.tells(("some", "some", ("not", form)), contrary, ("each", "each", form))
            self.tells(("some", "each", ("not", form)), contrary, ("each", "some", form))
            self.tells(("each", "some", ("not", form)), contrary, ("some", "each", form))
            self.tells(("each", "each", ("not", form)), contrary, ("some", "some", form))

    def test_not_is_put_ahead_of_not(self):
        self.tells(("some", "some", ("not", ("not", "yes"))), contrary, ("each", "each", ("not", "yes")))
        twice = contrary(contrary(("each", "some", ARROW)))
        self.assertEqual(twice, ("each", "some", ("not", ("not", ARROW))))

    def test_forms_12_deep(self):
        form = wrapped(ARROW, lambda form: ("both", "yes", form), 12)
        self.tells(("each", "some", ("not", form)), contrary, ("some", "each", form))

    def is_one_of_both(self, demand, world):
        truths = [self.tell(demand_holds, told, world) for told in (demand, contrary(demand))]
        self.assertEqual(sorted(truths), [False, True], (demand, world))
        self.assertIs(holds((demand,), world), truths[0])
        self.assertIs(holds((contrary(demand),), world), truths[1])

    def test_it_holds_just_where_the_demand_does_not(self):
        for world in all_worlds(1) + all_worlds(2)[::11] + [WORLD, SOME_WORLD, RING, full_world(4), full_world(8)]:
            for form in list(FLAT_FORMS) + forms_one_deep()[::9]:
                for start in STARTS:
                    self.is_one_of_both(start + (form,), world)

    def test_it_holds_just_where_a_deep_demand_does_not(self):
        chooser = Chooser(6)
        for depth in range(13):
            for many in range(1, 9):
                self.is_one_of_both(chooser.demand(depth), chooser.world(many))


if __name__ == "__main__":
    unittest.main()
