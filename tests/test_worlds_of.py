"""0.2 (f), 0.3, 2.2: worlds_of."""

import unittest

from samples import Asking, Chooser, FLAT_FORMS, STARTS, all_worlds, forms_one_deep, is_kept
from twonamed.holding import worlds_of
from twonamed.things import is_world

ARROW = ("to", "x", "y")


class WorldsOf(Asking, unittest.TestCase):
    def setUp(self):
        self.worlds = {1: all_worlds(1), 2: all_worlds(2)}

    def is_all_there_are(self, row, many):
        told = self.tell(worlds_of, row, many)
        self.assertIsInstance(told, tuple)
        right = [world for world in self.worlds[many] if all([is_kept(demand, world) for demand in row])]
        self.assertEqual(repr(told), repr(tuple(sorted(right))), row)
        self.assertTrue(all([is_world(world) for world in told]))
        self.assertTrue(all([told[k] < told[k + 1] for k in range(len(told) - 1)]))
        return len(told)

    def test_all_8_worlds_with_one_thing(self):
        self.tells((
            (1, (), (), ()), (1, (), (), ((0, 0),)), (1, (), (0,), ()), (1, (), (0,), ((0, 0),)),
            (1, (0,), (), ()), (1, (0,), (), ((0, 0),)), (1, (0,), (0,), ()), (1, (0,), (0,), ((0, 0),)),
        ), worlds_of, (), 1)

    def test_all_256_worlds_with_two_things(self):
        self.assertEqual(self.is_all_there_are((), 2), 256)
        self.assertEqual(self.is_all_there_are((("each", "some", "yes"),), 2), 256)

    def test_some_rows(self):
        self.tells(((1, (), (0,), ((0, 0),)),), worlds_of,
                   (("each", "each", ("not", ("a", "x"))), ("some", "some", ("both", ("b", "y"), ARROW))), 1)
        self.tells((
            (2, (0,), (), ((0, 1),)), (2, (1,), (), ((1, 0),)),
        ), worlds_of, (
            ("some", "some", ("both", ("a", "x"), ("not", ("a", "y")))), ("each", "each", ("not", ("b", "x"))),
            ("each", "each", ("either", ("not", ARROW), ("both", ("a", "x"), ("not", ("a", "y"))))),
            ("some", "some", ARROW),
        ), 2)

    def test_rows_without_a_world(self):
        for many in (1, 2):
            for start in STARTS:
                self.tells((), worlds_of, (start + ("no",),), many)
            self.tells((), worlds_of, (("each", "each", ("a", "x")), ("some", "some", ("not", ("a", "x")))), many)

    def test_rows_that_need_a_second_thing(self):
        row = (("some", "some", ("both", ("a", "x"), ("not", ("a", "y")))),)
        self.tells((), worlds_of, row, 1)
        self.assertEqual(self.is_all_there_are(row, 2), 2 * 4 * 16)

    def test_one_demand_of_each_kind(self):
        for form in list(FLAT_FORMS) + forms_one_deep()[::17]:
            for start in STARTS:
                self.is_all_there_are((start + (form,),), 1)
                self.is_all_there_are((start + (form,),), 2)

    def test_rows_of_up_to_5_demands_with_forms_up_to_12_deep(self):
        chooser = Chooser(7)
        counts = []
        for many in range(6):
            for deepest in (1, 2, 5, 12):
                row = chooser.row(many, deepest)
                counts.append(self.is_all_there_are(row, 1))
                counts.append(self.is_all_there_are(row, 2))
        self.assertGreater(len([count for count in counts if 0 < count < 256]), 10)

    def test_somewhat_beyond_the_bounds_nothing_is_refused(self):
        told = worlds_of((("each", "each", ("both", ("a", "x"), ("both", ("b", "x"), ("not", ("to", "x", "x"))))),), 3)
        self.assertEqual(len(told), 64)
        self.assertTrue(all([is_world(world) for world in told]))
        self.assertEqual(list(told), sorted(told))


if __name__ == "__main__":
    unittest.main()
