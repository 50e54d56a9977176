"""0.2, 0.3, the last sentences of 0.4 and 0.6, and the interface, over the whole program."""

import importlib
import inspect
import unittest

from samples import Asking, Chooser, all_worlds, is_kept, wrapped
from twonamed.changing import both_rows, named_back, swapped, turned
from twonamed.deciding import is_paper, paper_for, world_for
from twonamed.errors import DemandError, NoText
from twonamed.following import follows, spare, unlike
from twonamed.holding import contrary, demand_holds, failing, form_holds, holds, worlds_of
from twonamed.kinds import alone, kind_of, kinds, links, serves
from twonamed.reading import read
from twonamed.things import is_form, is_row, is_world
from twonamed.worlds import beside, doubled, lean_world, shuffled, swapped_world, turned_world
from twonamed.writing import written

PARAMETERS = {
    "things": {"is_form": 1, "is_row": 1, "is_world": 1},
    "writing": {"written": 1},
    "reading": {"read": 1},
    "holding": {"form_holds": 4, "demand_holds": 2, "holds": 2, "failing": 2, "contrary": 1, "worlds_of": 2},
    "worlds": {"beside": 2, "doubled": 1, "lean_world": 1, "turned_world": 1, "swapped_world": 1, "shuffled": 2},
    "kinds": {"kind_of": 3, "kinds": 1, "links": 3, "serves": 4, "alone": 3},
    "deciding": {"world_for": 1, "paper_for": 1, "is_paper": 2},
    "following": {"follows": 2, "unlike": 2, "spare": 1},
    "changing": {"turned": 1, "swapped": 1, "both_rows": 2, "named_back": 1},
}

ARROW = ("to", "x", "y")
DEEP_ARROW = wrapped(ARROW, lambda form: ("both", form, form), 12)
DEEP_MARK = wrapped(("a", "x"), lambda form: ("not", form), 12)
DEEP_YES = wrapped("yes", lambda form: ("either", "no", form), 12)

# 5 demands, 3 of which begin with some and then each, with forms 12 deep.
LONG_ROW = (("some", "each", DEEP_ARROW), ("each", "some", DEEP_ARROW), ("some", "each", DEEP_MARK),
            ("some", "some", DEEP_MARK), ("some", "each", DEEP_YES))
LARGE_ROW = read("each some both xy both not yx either both ax not ay both not ax ay ; some some bx ; some some not bx")


def is_plain(thing):
    if type(thing) is tuple:
        return all([is_plain(part) for part in thing])
    return thing is None or type(thing) in (int, bool, str)


def alike(world, one, other):
    """As the document says it: marked alike, arrows to and from the same things."""
    many, marked_a, marked_b, arrows = world
    if [one in marked_a, one in marked_b] != [other in marked_a, other in marked_b]:
        return False
    return all([((one, k) in arrows) == ((other, k) in arrows) and ((k, one) in arrows) == ((k, other) in arrows)
                for k in range(many)])


class Interface(unittest.TestCase):
    def test_all_names_are_there(self):
        for module, names in PARAMETERS.items():
            held = importlib.import_module("twonamed." + module)
            for name, many in names.items():
                parameters = inspect.signature(getattr(held, name)).parameters.values()
                self.assertEqual(len(parameters), many, name)
                self.assertEqual([part for part in parameters if part.kind != part.POSITIONAL_OR_KEYWORD], [], name)

    def test_the_errors(self):
        self.assertTrue(issubclass(DemandError, ValueError))
        self.assertTrue(issubclass(NoText, DemandError))


class Told(Asking, unittest.TestCase):
    """No list stands anywhere in what is told, what is handed in stays, and the same is told again."""

    def is_told_plainly(self, function, *things):
        told = self.tell(function, *things)
        self.assertTrue(is_plain(told), (function, things, told))
        return told

    def of_a_row(self, row, world):
        for function in (kinds, world_for, paper_for, spare, turned, swapped):
            self.is_told_plainly(function, row)
        self.is_told_plainly(worlds_of, row, 1)
        self.is_told_plainly(worlds_of, row, 2)
        self.is_told_plainly(holds, row, world)
        self.is_told_plainly(failing, row, world)
        self.is_told_plainly(both_rows, row, row)
        self.assertIs(self.is_told_plainly(is_paper, row, paper_for(row)), world_for(row) is None)
        for k in range(world[0]):
            self.is_told_plainly(kind_of, row, world, k)
        found = kinds(row)
        for one, other in zip(found[:5], found[::-1], strict=False):
            self.is_told_plainly(links, row, one, other)
            for n in [n for n, demand in enumerate(row) if demand[1] == "some"]:
                self.is_told_plainly(serves, row, n, one, other)
                self.is_told_plainly(alone, row, n, one)

    def of_demands(self, row, world):
        for demand in row:
            self.is_told_plainly(contrary, demand)
            self.is_told_plainly(demand_holds, demand, world)
            self.is_told_plainly(form_holds, demand[2], world, 0, world[0] - 1)
            self.is_told_plainly(follows, row[:4], demand)
            if demand[0] == demand[1]:
                self.is_told_plainly(named_back, demand)
        self.is_told_plainly(unlike, row[:4], row[1:])

    def of_a_world(self, world):
        for function in (is_world, doubled, lean_world, turned_world, swapped_world):
            self.is_told_plainly(function, world)
        self.is_told_plainly(beside, world, world)
        self.is_told_plainly(shuffled, world, tuple(range(world[0]))[::-1])

    def test_many_rows_and_worlds(self):
        chooser = Chooser(90)
        for many in range(5):
            for _ in range(3):
                row, world = chooser.row(many, 3), chooser.world(1 + chooser.below(4))
                self.of_a_row(row, world)
                self.of_demands(row, world)
                self.of_a_world(world)
                if is_row(row):
                    self.assertEqual(self.is_told_plainly(read, self.is_told_plainly(written, row)), row)
                self.is_told_plainly(is_form, row)

    def test_told_worlds_with_more_than_4_things(self):
        world = doubled(world_for(LARGE_ROW))
        self.assertGreater(world[0], 4)
        self.assertIs(is_world(world), False)
        self.of_a_world(world)
        self.of_a_row(LARGE_ROW, world)
        self.of_demands(LARGE_ROW, world)

    def test_told_worlds_go_in_again(self):
        world = world_for(LARGE_ROW)
        for other in (doubled(world), beside(world, world), lean_world(doubled(world)), beside(world, (1, (), (), ()))):
            self.assertIs(holds(LARGE_ROW[1:], other), True)
        self.assertIs(holds(LARGE_ROW, doubled(doubled(world))), True)
        self.assertIs(holds(LARGE_ROW, beside(world, world)), True)

    def test_rows_of_5_demands_with_3_marks_and_forms_12_deep(self):
        for row in (LONG_ROW, LONG_ROW[:3] + (("each", "each", ("not", DEEP_ARROW[1])), LONG_ROW[4])):
            self.assertIs(is_row(row), False)
            for function in (kinds, world_for, paper_for, turned, swapped):
                self.assertTrue(is_plain(function(row)))
            self.assertIs(is_paper(row, paper_for(row)), world_for(row) is None)
            self.assertTrue(is_plain(spare(row)))
            self.assertTrue(is_plain(follows(row[:4], row[4])))
            self.assertTrue(is_plain(unlike(row[:4], row[1:])))
            self.assertEqual(len(worlds_of(row, 1)) > 0, world_for(row) is not None)
            self.assertEqual(both_rows(row[:2], row[2:]), row)
        self.assertIsNotNone(world_for(LONG_ROW))
        self.assertIsNotNone(paper_for(LONG_ROW[:3] + (("each", "each", ("not", ARROW)),)))


class Whole(unittest.TestCase):
    """The points of 0.2, for many rows and worlds at once."""

    def rows(self, seed, count):
        chooser = Chooser(seed)
        return [chooser.row_with_marks(chooser.below(3), chooser.below(3), 3) for _ in range(count)]

    def worlds(self, seed, count):
        chooser = Chooser(seed)
        return [chooser.world(1 + chooser.below(5)) for _ in range(count)]

    def test_a_demand_or_its_contrary(self):
        for world in self.worlds(91, 30):
            for row in self.rows(92, 15):
                for demand in row:
                    self.assertIs(demand_holds(contrary(demand), world), not demand_holds(demand, world))

    def test_a_world_or_a_paper(self):
        worlds = self.worlds(93, 40)
        for row in self.rows(94, 60):
            world, paper = world_for(row), paper_for(row)
            self.assertEqual([world is None, paper is None].count(True), 1, row)
            if paper is not None:
                self.assertIs(is_paper(row, paper), True)
                self.assertEqual([other for other in worlds if holds(row, other)], [])
            else:
                self.assertIs(holds(row, world), True)

    def test_what_follows_and_what_parts(self):
        rows = self.rows(95, 30)
        worlds = self.worlds(96, 20)
        for one, other in zip(rows, rows[1:] + rows[:1], strict=True):
            told = unlike(one, other)
            if told is None:
                self.assertEqual([holds(one, world) for world in worlds], [holds(other, world) for world in worlds])
            else:
                self.assertEqual([holds(row, told[1]) for row in (one, other)], [told[0] == 0, told[0] == 1])
            for demand in other:
                world = follows(one, demand)
                if world is None:
                    self.assertEqual([kept for kept in worlds if holds(one, kept) and not is_kept(demand, kept)], [])
                else:
                    self.assertEqual((holds(one, world), demand_holds(demand, world)), (True, False))

    def test_doubled_and_made_lean(self):
        rows = self.rows(97, 25)
        for world in self.worlds(98, 25):
            lean = lean_world(doubled(world))
            pairs = [(one, other) for one in range(lean[0]) for other in range(one)]
            self.assertEqual([pair for pair in pairs if alike(lean, pair[0], pair[1])], [])
            for row in rows:
                truth = holds(row, world)
                self.assertIs(holds(row, doubled(world)), truth)
                self.assertIs(holds(row, lean_world(world)), truth)
                self.assertIs(holds(row, lean), truth)

    def test_told_worlds_doubled_and_made_lean(self):
        for row in self.rows(99, 60):
            world = world_for(row)
            if world is not None:
                self.assertIs(holds(row, doubled(world)), True)
                self.assertIs(holds(row, lean_world(world)), True)

    def test_turned_and_swapped(self):
        rows = self.rows(100, 25)
        for world in self.worlds(101, 25):
            for row in rows:
                truth = holds(row, world)
                self.assertIs(holds(turned(row), turned_world(world)), truth)
                self.assertIs(holds(swapped(row), swapped_world(world)), truth)

    def test_the_told_worlds_are_all_there_are(self):
        for row in self.rows(102, 15):
            for many in (1, 2):
                kept = [world for world in all_worlds(many) if all([is_kept(demand, world) for demand in row])]
                self.assertEqual(worlds_of(row, many), tuple(sorted(kept)))
                if kept:
                    self.assertIsNotNone(world_for(row))


if __name__ == "__main__":
    unittest.main()
