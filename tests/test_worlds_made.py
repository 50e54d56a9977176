"""0.2 (d), 0.3, 0.4, 3.1, 3.2: beside, doubled, turned_world, swapped_world, shuffled."""

import itertools
import unittest

from samples import Asking, Chooser, Keeping, SOME_WORLD, all_worlds, full_world
from twonamed.things import is_world
from twonamed.worlds import beside, doubled, shuffled, swapped_world, turned_world

BARE = (1, (), (), ())


def some_worlds():
    """All with one thing, some with 2 to 4, and some with more."""
    chooser = Chooser(8)
    larger = [chooser.world(many) for many in (3, 4) * 12 + (5, 6, 8)]
    return all_worlds(1) + all_worlds(2)[::13] + larger + [full_world(many) for many in (2, 3, 4)]


class Making(Asking, Keeping, unittest.TestCase):
    def is_well_made(self, world):
        """What a world of any size is, by 0.4."""
        self.assertIsInstance(world, tuple)
        many, marked_a, marked_b, arrows = world
        things = list(range(many))
        pairs = list(itertools.product(things, things))
        self.assertIs(type(many), int)
        for told, parts in ((marked_a, things), (marked_b, things), (arrows, pairs)):
            self.assertIsInstance(told, tuple)
            self.assertEqual(repr(told), repr(tuple([part for part in parts if part in told])))
        self.assertIs(is_world(world), 1 <= many <= 4)


class Beside(Making):
    def test_what_is_told(self):
        self.tells((2, (), (), ()), beside, BARE, BARE)
        self.tells((2, (0,), (1,), ((0, 0),)), beside, (1, (0,), (), ((0, 0),)), (1, (), (0,), ()))
        self.tells((2, (1,), (0,), ((1, 1),)), beside, (1, (), (0,), ()), (1, (0,), (), ((0, 0),)))
        self.tells((5, (0, 2, 4), (1, 3), ((0, 0), (0, 1), (2, 0), (3, 4), (4, 3))),
                   beside, SOME_WORLD, (2, (1,), (0,), ((0, 1), (1, 0))))
        self.tells((5, (1, 2, 4), (0, 3), ((0, 1), (1, 0), (2, 2), (2, 3), (4, 2))),
                   beside, (2, (1,), (0,), ((0, 1), (1, 0))), SOME_WORLD)

    def test_worlds_of_any_size(self):
        worlds = some_worlds()
        for one in worlds[::3]:
            for other in worlds[::4]:
                told = self.tell(beside, one, other)
                self.is_well_made(told)
                self.assertEqual(told[0], one[0] + other[0])
                self.assertEqual([k for k in told[1] if k < one[0]], list(one[1]))
                self.assertEqual([k - one[0] for k in told[1] if k >= one[0]], list(other[1]))
                self.assertEqual([k for k in told[2] if k < one[0]], list(one[2]))
                self.assertEqual([k - one[0] for k in told[2] if k >= one[0]], list(other[2]))
                right = list(one[3]) + [(start + one[0], end + one[0]) for start, end in other[3]]
                self.assertEqual(list(told[3]), right)

    def test_a_world_beside_itself(self):
        self.tells((2, (0, 1), (), ((0, 0), (1, 1))), beside, (1, (0,), (), ((0, 0),)), (1, (0,), (), ((0, 0),)))
        self.assertEqual(beside(full_world(4), full_world(4))[0], 8)

    def test_three_worlds(self):
        for one, two, three in itertools.product(some_worlds()[::9], repeat=3):
            self.assertEqual(beside(beside(one, two), three), beside(one, beside(two, three)))


class Doubled(Making):
    def test_what_is_told(self):
        self.tells((2, (), (), ()), doubled, BARE)
        self.tells((2, (0, 1), (), ((0, 0), (0, 1), (1, 0), (1, 1))), doubled, (1, (0,), (), ((0, 0),)))
        self.tells((4, (1, 3), (0, 2), ((0, 1), (0, 3), (2, 1), (2, 3))), doubled, (2, (1,), (0,), ((0, 1),)))
        self.tells((6, (0, 2, 3, 5), (1, 4), (
            (0, 0), (0, 1), (0, 3), (0, 4), (2, 0), (2, 3), (3, 0), (3, 1), (3, 3), (3, 4), (5, 0), (5, 3),
        )), doubled, SOME_WORLD)
        self.tells(full_world(8), doubled, full_world(4))
        self.tells((8, (), (), ()), doubled, (4, (), (), ()))

    def test_worlds_of_any_size(self):
        for world in some_worlds():
            told = self.tell(doubled, world)
            self.is_well_made(told)
            many = world[0]
            self.assertEqual(told[0], 2 * many)
            for k in range(2 * many):
                self.assertEqual(k in told[1], k % many in world[1])
                self.assertEqual(k in told[2], k % many in world[2])
                for other in range(2 * many):
                    self.assertEqual((k, other) in told[3], (k % many, other % many) in world[3])

    def test_doubled_twice(self):
        self.tells(full_world(16), doubled, doubled(full_world(4)))
        self.is_well_made(doubled(doubled(SOME_WORLD)))

    def test_it_keeps_what_holds(self):
        self.keeps_what_holds(doubled, some_worlds())


class Turned(Making):
    def test_what_is_told(self):
        self.tells(BARE, turned_world, BARE)
        self.tells((1, (0,), (), ((0, 0),)), turned_world, (1, (0,), (), ((0, 0),)))
        self.tells((2, (0,), (1,), ((1, 0),)), turned_world, (2, (0,), (1,), ((0, 1),)))
        self.tells((3, (0, 2), (1,), ((0, 0), (0, 2), (1, 0))), turned_world, SOME_WORLD)
        self.tells((3, (), (), ((0, 2), (1, 1), (2, 0), (2, 1))), turned_world,
                   (3, (), (), ((0, 2), (1, 1), (1, 2), (2, 0))))

    def test_worlds_of_any_size(self):
        for world in some_worlds():
            told = self.tell(turned_world, world)
            self.is_well_made(told)
            self.assertEqual(told[:3], world[:3])
            for start, end in itertools.product(range(world[0]), repeat=2):
                self.assertEqual((start, end) in told[3], (end, start) in world[3])
            self.assertEqual(turned_world(told), world)


class Swapped(Making):
    def test_what_is_told(self):
        self.tells(BARE, swapped_world, BARE)
        self.tells((1, (0,), (), ((0, 0),)), swapped_world, (1, (), (0,), ((0, 0),)))
        self.tells((3, (1,), (0, 2), ((0, 0), (0, 1), (2, 0))), swapped_world, SOME_WORLD)

    def test_worlds_of_any_size(self):
        for world in some_worlds():
            told = self.tell(swapped_world, world)
            self.is_well_made(told)
            self.assertEqual(told, (world[0], world[2], world[1], world[3]))


class Shuffled(Making):
    def test_what_is_told(self):
        self.tells(BARE, shuffled, BARE, (0,))
        self.tells((1, (0,), (), ((0, 0),)), shuffled, (1, (0,), (), ((0, 0),)), (0,))
        self.tells((2, (1,), (0,), ((1, 0),)), shuffled, (2, (0,), (1,), ((0, 1),)), (1, 0))
        self.tells(SOME_WORLD, shuffled, SOME_WORLD, (0, 1, 2))

    def test_thing_k_becomes_the_kth_name(self):
        self.tells((3, (0, 1), (2,), ((0, 1), (1, 1), (1, 2))), shuffled, SOME_WORLD, (1, 2, 0))
        self.tells((3, (1, 2), (0,), ((1, 2), (2, 0), (2, 2))), shuffled, SOME_WORLD, (2, 0, 1))

    def test_all_orders_of_3_and_4_things(self):
        for world in (SOME_WORLD, Chooser(10).world(4), full_world(4), (4, (0, 3), (2,), ((0, 3), (1, 1), (3, 2)))):
            for names in itertools.permutations(range(world[0])):
                self.is_shuffled(world, names)

    def is_shuffled(self, world, names):
        told = self.tell(shuffled, world, names)
        self.is_well_made(told)
        self.assertEqual(told[0], world[0])
        for k in range(world[0]):
            self.assertEqual(names[k] in told[1], k in world[1])
            self.assertEqual(names[k] in told[2], k in world[2])
            for other in range(world[0]):
                self.assertEqual((names[k], names[other]) in told[3], (k, other) in world[3])
        back = tuple([names.index(k) for k in range(world[0])])
        self.assertEqual(shuffled(told, back), world)

    def test_worlds_of_any_size(self):
        chooser = Chooser(11)
        for world in some_worlds():
            self.is_shuffled(world, chooser.order(world[0]))

    def test_it_keeps_what_holds(self):
        chooser = Chooser(12)
        self.keeps_what_holds(lambda world: shuffled(world, chooser.order(world[0])), some_worlds())


if __name__ == "__main__":
    unittest.main()
