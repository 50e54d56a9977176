"""0.2 (d), 0.3, 0.4, 3.2: lean_world, and when two things are alike."""

import itertools
import unittest

from samples import Asking, Chooser, Keeping, SOME_WORLD, all_worlds, full_world
from twonamed.things import is_world
from twonamed.worlds import beside, doubled, lean_world, shuffled


def are_alike(world, one, other):
    many, marked_a, marked_b, arrows = world
    if [one in marked_a, one in marked_b] != [other in marked_a, other in marked_b]:
        return False
    return all([((one, k) in arrows, (k, one) in arrows) == ((other, k) in arrows, (k, other) in arrows)
                for k in range(many)])


def kept_things(world):
    return [k for k in range(world[0]) if not [j for j in range(k) if are_alike(world, j, k)]]


def restricted(world, kept):
    places = list(range(len(kept)))
    return (len(kept), tuple([k for k in places if kept[k] in world[1]]),
            tuple([k for k in places if kept[k] in world[2]]),
            tuple([pair for pair in itertools.product(places, places)
                   if (kept[pair[0]], kept[pair[1]]) in world[3]]))


def some_worlds():
    chooser = Chooser(13)
    small = all_worlds(1) + all_worlds(2) + all_worlds(3)[::97]
    larger = [chooser.world(many) for many in (4, 5, 6, 7)]
    fat = [beside(world, world) for world in all_worlds(2)[::9]]
    fat += [doubled(chooser.world(many)) for many in (1, 2, 3, 4) * 4]
    return small + larger + fat + [shuffled(world, chooser.order(world[0])) for world in fat]


class Lean(Asking, Keeping, unittest.TestCase):
    def is_lean(self, world):
        self.tells(world, lean_world, world)

    def test_things_that_are_alike(self):
        self.tells((1, (), (), ()), lean_world, (2, (), (), ()))
        self.tells((1, (), (), ()), lean_world, (4, (), (), ()))
        self.tells((1, (0,), (), ()), lean_world, (3, (0, 1, 2), (), ()))
        self.tells((1, (), (0,), ()), lean_world, (2, (), (0, 1), ()))
        self.tells((1, (0,), (0,), ((0, 0),)), lean_world, full_world(4))
        self.tells((1, (0,), (0,), ((0, 0),)), lean_world, full_world(8))

    def test_one_thing(self):
        for world in all_worlds(1):
            self.is_lean(world)

    def test_things_that_differ_by_a_mark_alone(self):
        for world in ((2, (0,), (), ()), (2, (1,), (), ()), (2, (), (0,), ()), (2, (), (1,), ()),
                      (2, (0,), (1,), ()), (2, (0, 1), (1,), ()), (2, (0,), (0, 1), full_world(2)[3])):
            self.is_lean(world)

    # Thing 2 is marked a, so that it differs from the others in any case.
    def test_things_that_differ_by_an_arrow_to_or_from_another_thing(self):
        for arrow in ((0, 2), (1, 2), (2, 0), (2, 1)):
            self.is_lean((3, (2,), (), (arrow,)))
        self.is_lean((3, (2,), (), ((0, 2), (2, 1))))
        self.is_lean((3, (2,), (), ((0, 2), (1, 2), (2, 1))))
        self.tells((2, (1,), (), ((0, 1),)), lean_world, (3, (2,), (), ((0, 2), (1, 2))))
        self.tells((2, (1,), (), ((1, 0),)), lean_world, (3, (2,), (), ((2, 0), (2, 1))))
        self.tells((2, (1,), (), ((0, 1), (1, 0), (1, 1))), lean_world,
                   (3, (2,), (), ((0, 2), (1, 2), (2, 0), (2, 1), (2, 2))))

    def test_things_that_differ_by_arrows_among_themselves(self):
        pairs = list(itertools.product(range(2), repeat=2))
        for many in range(1, 4):
            for arrows in itertools.combinations(pairs, many):
                self.is_lean((2, (), (), arrows))
                self.is_lean((2, (0, 1), (0, 1), arrows))
        self.tells((1, (), (), ((0, 0),)), lean_world, (2, (), (), tuple(pairs)))

    # An arrow between each two, but from none to itself: no two are alike.
    def test_arrows_between_all_different_things(self):
        for many in (2, 3, 4, 5):
            self.is_lean((many, (), (), tuple(itertools.permutations(range(many), 2))))
            self.is_lean((many, (), (), tuple([(k, k) for k in range(many)])))

    def test_the_first_one_is_left_and_numbered_anew(self):
        self.tells((2, (0,), (), ()), lean_world, (3, (0, 2), (), ()))
        self.tells((2, (1,), (), ()), lean_world, (3, (1,), (), ()))
        self.tells((2, (1,), (), ((1, 0),)), lean_world, (3, (2,), (), ((2, 0), (2, 1))))
        self.tells((3, (0,), (1,), ((0, 1), (2, 2))), lean_world,
                   (5, (0, 2), (1, 3), ((0, 1), (0, 3), (2, 1), (2, 3), (4, 4))))
        self.tells((3, (1,), (2,), ((0, 2), (1, 1))), lean_world,
                   (4, (2,), (3,), ((0, 3), (1, 3), (2, 2))))
        self.tells((3, (1,), (), ((0, 1), (1, 2), (2, 0))), lean_world,
                   (6, (1, 4), (), tuple(sorted([(start + k, end + j) for start, end in ((0, 1), (1, 2), (2, 0))
                                                 for k in (0, 3) for j in (0, 3)]))))

    def test_a_world_whose_things_all_differ(self):
        self.is_lean(SOME_WORLD)
        self.is_lean((4, (), (), ((0, 1), (1, 2), (2, 3))))
        self.is_lean((5, (), (), ((0, 1), (1, 2), (2, 3), (3, 4), (4, 0))))

    # Thing 0 is alike to none; 1 and 2 would be so, if it were only for arrows from them.
    def test_arrows_to_and_from_count_both(self):
        self.is_lean((3, (0,), (), ((0, 1), (1, 0), (2, 0))))
        self.is_lean((3, (0,), (), ((0, 1), (0, 2), (1, 0))))

    def test_what_is_told_of_many_worlds(self):
        sizes = []
        for world in some_worlds():
            kept = kept_things(world)
            self.tells(restricted(world, kept), lean_world, world)
            sizes.append((world[0], len(kept)))
        for sized in ((2, 1), (2, 2), (3, 2), (3, 3), (4, 2), (8, 4)):
            self.assertIn(sized, sizes)

    def test_no_two_things_of_a_lean_world_are_alike(self):
        for world in some_worlds():
            told = lean_world(world)
            for one, other in itertools.combinations(range(told[0]), 2):
                self.assertFalse(are_alike(told, one, other), world)
            self.assertEqual(lean_world(told), told)
            self.assertTrue(is_world(told) or told[0] > 4)

    def test_doubled_and_made_lean(self):
        for world in some_worlds():
            self.assertEqual(lean_world(doubled(world)), lean_world(world))
            self.assertEqual(lean_world(doubled(lean_world(world))), lean_world(world))

    def test_it_keeps_what_holds(self):
        self.keeps_what_holds(lean_world, some_worlds()[::2])


if __name__ == "__main__":
    unittest.main()
