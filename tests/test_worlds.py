"""0.3, 0.4, 1.1: is_world."""

import itertools
import unittest

from samples import (Asking, ODD_THINGS, SOME_WORLD, all_worlds, full_world, swapped_part, too_few_or_many,
                     with_list_at_each_level)
from twonamed.things import is_world


class Worlds(Asking, unittest.TestCase):
    def test_all_worlds_with_1_or_2_things(self):
        self.is_told(is_world, True, all_worlds(1))
        self.is_told(is_world, True, all_worlds(2))

    def test_some_worlds_with_3_or_4_things(self):
        self.is_told(is_world, True, [
            SOME_WORLD, full_world(3), full_world(4), (4, (), (), ()), (4, (3,), (), ((3, 3),)),
            (4, (0, 3), (1, 2, 3), ((0, 3), (1, 2), (3, 0))),
        ])

    def test_how_many_things(self):
        self.is_told(is_world, True, [(many, (), (), ()) for many in (1, 2, 3, 4)])
        self.is_told(is_world, False, [(many, (), (), ()) for many in (0, 5, 6, -1, -4, 10 ** 30)])
        self.is_told(is_world, False, [full_world(0), full_world(5), full_world(6)])

    def test_many_is_a_whole_number(self):
        self.is_told(is_world, False, [(many, (), (), ()) for many in
                                       (True, False, None, "1", "", (), (1,), [], [1])])

    def test_truths_are_no_things(self):
        self.is_told(is_world, False, [
            (2, (True,), (), ()), (2, (False,), (), ()), (2, (0, True), (), ()), (2, (False, 1), (), ()),
            (2, (), (True,), ()), (2, (), (False,), ()), (2, (), (0, True), ()), (2, (), (False, 1), ()),
            (2, (), (), ((True, 0),)), (2, (), (), ((0, True),)), (2, (), (), ((False, 1),)),
            (2, (), (), ((1, False),)), (2, (), (), ((0, 0), (True, True))), (True, (0,), (0,), ((0, 0),)),
        ])

    def test_other_kinds_are_no_things(self):
        for thing in (None, "", "0", "x", (), (0,), [], [0]):
            self.is_told(is_world, False, [
                (2, (thing,), (), ()), (2, (), (thing,), ()), (2, (0, thing), (), ()), (2, (), (thing, 1), ()),
                (2, (), (), ((thing, 0),)), (2, (), (), ((0, thing),)), (2, (), (), (thing,)),
                (2, (), (), ((0, 0), thing)),
            ])

    def test_marks_rise(self):
        for wrong in ((1, 0), (0, 0), (2, 2), (0, 2, 1), (0, 1, 1), (0, 0, 1), (2, 1, 0), (1, 2, 0)):
            self.is_told(is_world, False, [(3, wrong, (), ()), (3, (), wrong, ()), (4, wrong, wrong, ())])

    def test_arrows_rise(self):
        self.is_told(is_world, False, [(3, (), (), wrong) for wrong in (
            ((0, 1), (0, 0)), ((1, 0), (0, 1)), ((0, 0), (0, 0)), ((0, 1), (1, 2), (1, 2)), ((0, 2), (0, 1), (1, 0)),
            ((2, 0), (1, 2)), ((0, 0), (2, 2), (1, 1)),
        )])

    def test_things_are_from_0_to_below_many(self):
        for many in (1, 2, 3, 4):
            last = many - 1
            self.is_told(is_world, True, [(many, (last,), (last,), ((last, last),))])
            for wrong in (-1, -many, many, many + 1, 10 ** 30):
                self.is_told(is_world, False, [
                    (many, (wrong,), (), ()), (many, (), (wrong,), ()),
                    (many, (), (), ((wrong, 0),)), (many, (), (), ((0, wrong),)), (many, (), (), ((wrong, wrong),)),
                ])
        self.is_told(is_world, False, [(2, (-1, 0), (), ()), (2, (), (0, 1, 2), ()), (2, (), (), ((0, 1), (1, 2)))])

    def test_arrows_are_pairs(self):
        for wrong in ((), (0,), (1,), (0, 0, 0), (0, 1, 0), (0, 1, 0, 1)):
            self.is_told(is_world, False, [(2, (), (), (wrong,)), (2, (), (), ((0, 0), wrong))])
        self.is_told(is_world, False, [(2, (), (), (0, 1)), (2, (), (), (0,))])

    def test_arrows_from_a_thing_to_itself(self):
        self.is_told(is_world, True, [
            (1, (), (), ((0, 0),)), (2, (), (), ((1, 1),)), (3, (), (), ((0, 0), (1, 1), (2, 2))),
        ])

    def test_a_list_in_the_place_of_a_tuple_at_each_level(self):
        wrong = with_list_at_each_level(SOME_WORLD)
        self.assertEqual(len(wrong), 7)
        self.is_told(is_world, False, wrong)
        self.is_told(is_world, False, [[1, (), (), ()], (1, [], (), ()), (1, (), [], ()), (1, (), (), [])])

    def test_a_part_too_few_or_too_many(self):
        for extra in ((), 1, None):
            self.is_told(is_world, False, too_few_or_many(SOME_WORLD, extra))
        self.is_told(is_world, False, [(), (1,), (1, ()), (1, (), ()), (1, (), (), (), ())])

    def test_parts_of_other_kinds(self):
        for place in range(4):
            tried = [swapped_part((1, (), (), ()), place, thing) for thing in ODD_THINGS]
            right = ["(1, (), (), ())", "(2, (), (), ())", "(4, (), (), ())", "(1, (0,), (), ())", "(1, (), (0,), ())"]
            self.is_told(is_world, False, [thing for thing in tried if repr(thing) not in right])

    def test_things_that_are_no_worlds(self):
        self.is_told(is_world, False, ODD_THINGS)

    def test_things_some_thirty_deep(self):
        self.is_not_told_of_deep_things(is_world)

    def test_just_these_of_all_small_things(self):
        right = dict.fromkeys([repr(world) for world in all_worlds(1) + all_worlds(2)], True)
        things = (0, 1, 2, -1, True, None)
        marks = [thing for many in range(3) for thing in itertools.product(things, repeat=many)] + [[], [0], 0]
        pairs = [(0, 0), (0, 1), (1, 0), (1, 1), (0, 2), (True, 1), (0,), [0, 0]]
        arrows = [thing for many in range(3) for thing in itertools.product(pairs, repeat=many)]
        found = 0
        for many in (1, 2, True):
            tried = list(itertools.product([many], marks, [()], arrows))
            tried += list(itertools.product([many], [()], marks, arrows))
            tried += list(itertools.product([many], marks, marks, [()]))
            for thing in tried:
                told = is_world(thing)
                self.assertIs(told, repr(thing) in right, thing)
                found += told
        self.assertGreater(found, 100)


if __name__ == "__main__":
    unittest.main()
