"""0.2 (c), 0.3, 0.6, 6.1, 6.2: follows, unlike, spare."""

import unittest

from samples import (Asking, Chooser, ROWS_WITHOUT_A_WORLD, ROWS_WITH_A_WORLD, STARTS, all_worlds, forms_one_deep,
                     is_kept, wrapped)
from twonamed.following import follows, spare, unlike
from twonamed.holding import contrary, demand_holds, holds
from twonamed.reading import read

ARROW = ("to", "x", "y")
ALL_TO_ALL = read("each each xy")[0]
ONE_TO_ALL = read("some each xy")[0]
EACH_TO_ONE = read("each some xy")[0]
ONE_TO_ONE = read("some some xy")[0]
NO_ROW = read("some some no")

# Of each of these demands those behind it follow.
WEAKER = (
    ("each each xy", "each each yx", "each each xx", "some each xy", "each some xy", "some some yx"),
    ("some each xy", "some some xy", "some some xx", "each some yx"),
    ("each some xy", "some some xy", "some some yx"),
    ("each each both ax bx", "each each ay", "each some bx", "some each either ax xy"),
    ("some some both ax not ay", "some some ax", "some some not ax", "some some not ay", "some some both not ax ay"),
    ("some each both ax not ay", "each each xy", "some some no"),
    ("each each not either xy yx", "each each not xy", "some each not yy"),
)

STRONGER = (
    ("some some xy", "some some xx", "each some xy", "some each xy", "each each xy"),
    ("each some xy", "some each xy", "some each yx", "each each xy", "some some xx", "each some yx"),
    ("some each xy", "each some xy", "some each yx", "each each xy"),
    ("some some ax", "some some bx", "each some ax", "some each ay", "some some not ax"),
    ("each each either ax bx", "each each ax", "some some bx", "some each ax", "each some bx"),
)


def all_hold(row, world):
    return all([is_kept(demand, world) for demand in row])


def small_worlds():
    return all_worlds(1) + all_worlds(2)


class Following(Asking, unittest.TestCase):
    def follows_from(self, row, demand):
        self.tells(None, follows, row, demand)
        for world in small_worlds()[::3]:
            self.assertTrue(is_kept(demand, world) or not all_hold(row, world), (row, demand, world))

    def does_not_follow_from(self, row, demand):
        world = self.tell(follows, row, demand)
        self.assertIsNotNone(world, (row, demand))
        self.assertTrue(all_hold(row, world), (row, demand, world))
        self.assertFalse(is_kept(demand, world), (row, demand, world))
        self.assertIs(holds(row, world), True)
        self.assertIs(demand_holds(demand, world), False)

    def is_parted(self, one, other):
        if follows(one, other) is None:
            self.follows_from(one, other)
            return True
        self.does_not_follow_from(one, other)
        return False

    def test_a_demand_of_the_row(self):
        for text in ROWS_WITH_A_WORLD + ROWS_WITHOUT_A_WORLD:
            row = read(text)
            for demand in row:
                self.follows_from(row, demand)

    def test_weaker_demands(self):
        for texts in WEAKER:
            for text in texts:
                self.follows_from(read(texts[0]), read(text)[0])

    def test_demands_that_do_not_follow(self):
        for texts in STRONGER:
            for text in texts[1:]:
                self.does_not_follow_from(read(texts[0]), read(text)[0])

    def test_from_several_demands_together(self):
        row = read("each each either not ax bx ; each each either not bx xy ; some each ax")
        demand = read("some each xy")[0]
        self.follows_from(row, demand)
        for n in range(3):
            self.does_not_follow_from(row[:n] + row[n + 1:], demand)
        self.follows_from(row + row[:1], demand)

    def test_from_the_empty_row(self):
        for start in STARTS:
            self.follows_from((), start + ("yes",))
            self.does_not_follow_from((), start + ("no",))
            self.follows_from((), start + (("either", ARROW, ("not", ARROW)),))
            self.does_not_follow_from((), start + (ARROW,))
        self.follows_from((), read("some some either not xy yx")[0])

    def test_all_follows_from_a_row_without_a_world(self):
        for text in ROWS_WITHOUT_A_WORLD[::3]:
            for start in STARTS:
                self.follows_from(read(text), start + ("no",))
                self.follows_from(read(text), start + (ARROW,))

    def test_a_demand_that_goes_against_the_row(self):
        for text in ROWS_WITH_A_WORLD:
            for demand in read(text):
                self.does_not_follow_from(read(text), contrary(demand))

    def test_worlds_with_three_and_more_things(self):
        one_way = read("each each not both xy yx ; each some xy")
        self.follows_from(one_way, read("each each not xx")[0])
        self.does_not_follow_from(one_way, read("some some ax")[0])
        world = follows(one_way, read("some some bx")[0])
        self.assertGreaterEqual(world[0], 3)

    def test_each_small_demand(self):
        truths = []
        for form in forms_one_deep()[::17]:
            for start in STARTS:
                for row in ((ONE_TO_ALL,), (EACH_TO_ONE,), read("each each either ax by")):
                    truths.append(self.is_parted(row, start + (form,)))
        self.assertGreater(truths.count(True), 20)
        self.assertGreater(truths.count(False), 20)

    def test_many_rows(self):
        chooser = Chooser(70)
        truths = []
        for many in range(5):
            for _ in range(25):
                truths.append(self.is_parted(chooser.row(many, 3), chooser.demand(2)))
        self.assertGreater(truths.count(True), 20)
        self.assertGreater(truths.count(False), 20)

    def test_rows_of_4_demands_with_3_marks(self):
        chooser = Chooser(71)
        for _ in range(6):
            row = chooser.row_with_marks(3, 1, 4)
            for start in STARTS:
                self.is_parted(row, start + (chooser.form(2),))

    def test_forms_12_deep(self):
        deep = wrapped(ARROW, lambda form: ("both", form, form), 12)
        for start in STARTS:
            self.tells(None, follows, (start + (deep,),), ONE_TO_ONE)
        world = follows((("some", "each", deep),), ALL_TO_ALL)
        self.assertIs(holds((ONE_TO_ALL,), world), True)
        self.assertIs(holds((ALL_TO_ALL,), world), False)
        self.tells(None, follows, (ONE_TO_ALL,), ("some", "each", wrapped(ARROW, lambda form: ("not", form), 12)))


class Unlike(Asking, unittest.TestCase):
    def are_like(self, one, other):
        self.tells(None, unlike, one, other)
        self.tells(None, unlike, other, one)
        for world in small_worlds()[::3]:
            self.assertIs(all_hold(one, world), all_hold(other, world), (one, other, world))

    def is_parting(self, one, other, told):
        self.assertIs(type(told), tuple)
        k, world = told
        self.assertIs(type(k), int)
        self.assertIn(k, (0, 1))
        truths = [all_hold(row, world) for row in (one, other)]
        self.assertEqual(truths, [k == 0, k == 1], (one, other, told))
        self.assertEqual([holds(row, world) for row in (one, other)], truths)

    def are_unlike(self, one, other):
        self.is_parting(one, other, self.tell(unlike, one, other))
        self.is_parting(other, one, self.tell(unlike, other, one))

    def test_the_same_row(self):
        for text in ROWS_WITH_A_WORLD + ROWS_WITHOUT_A_WORLD:
            self.are_like(read(text), read(text))

    def test_another_order(self):
        chooser = Chooser(72)
        for text in ROWS_WITH_A_WORLD + ROWS_WITHOUT_A_WORLD:
            row = read(text)
            self.are_like(row, row[::-1])
            self.are_like(row, tuple([row[n] for n in chooser.order(len(row))]))

    def test_a_demand_twice(self):
        for text in ROWS_WITH_A_WORLD[1:-1]:
            row = read(text)
            for demand in row[:2]:
                self.are_like(row, (demand,) + row)

    def test_not_not(self):
        for text in ROWS_WITH_A_WORLD:
            row = read(text)
            self.are_like(row, tuple([(one, other, ("not", ("not", form))) for one, other, form in row]))

    def test_other_words_for_the_same(self):
        for one, other in (("each each both ax bx", "each each ax ; each each by"), ("each each xy", "each each yx"),
                           ("some some both ax not ay", "some some ax ; some some not ax"),
                           ("-", "each each yes"), ("-", "some some yes ; each some yes"),
                           ("some some no", "each each no"), ("each some no", "some each xy ; some each not yx")):
            self.are_like(read(one), read(other))

    def test_rows_that_differ(self):
        for one, other in (("-", "some some ax"), ("each each xy", "each some xy"), ("some each xy", "each some xy"),
                           ("each each ax ; some some bx", "each each ax ; some some not bx"),
                           ("some some xy ; some some ax", "some some xy"), ("-", "some some no"),
                           ("each some xy ; each each not both xy yx", "each each no"),
                           ("each some xy", "each some yx"), ("some each xy", "some each yx")):
            self.are_unlike(read(one), read(other))

    def test_which_row_holds(self):
        strong, weak = read("each each ax"), read("some some ax")
        self.assertEqual(unlike(strong, weak)[0], 1)
        self.assertEqual(unlike(weak, strong)[0], 0)
        self.assertEqual(unlike((), NO_ROW)[0], 0)
        self.assertEqual(unlike(NO_ROW, ())[0], 1)

    def test_many_rows(self):
        chooser = Chooser(73)
        truths = []
        for many in range(5):
            for _ in range(12):
                one, other = chooser.row(many, 2), chooser.row(chooser.below(4), 2)
                truths.append(unlike(one, other) is None)
                (self.are_like if truths[-1] else self.are_unlike)(one, other)
        self.assertGreater(truths.count(True), 3)
        self.assertGreater(truths.count(False), 20)

    def test_rows_of_4_demands_with_marks(self):
        chooser = Chooser(74)
        for marks in (1, 2, 3):
            for _ in range(2):
                row = chooser.row_with_marks(marks, 4 - marks, 3)
                self.are_like(row, row[::-1])
                other = row[:3] + (contrary(row[3]),)
                (self.are_like if unlike(row, other) is None else self.are_unlike)(row, other)

    def test_forms_12_deep(self):
        deep = wrapped(ARROW, lambda form: ("both", form, form), 12)
        for start in STARTS:
            self.tells(None, unlike, (start + (deep,),), (start + (ARROW,),))


class Spare(Asking, unittest.TestCase):
    def test_none(self):
        for text in ("-", "some some ax", "each each xy", "some some no", "each each ax ; some some bx",
                     "each some xy ; some each xy ; each each either ax by", "each each not both xy yx ; each some xy"):
            self.tells((), spare, read(text))

    def test_one(self):
        self.tells((0,), spare, read("each each yes"))
        self.tells((1,), spare, read("each each ax ; some some ax"))
        self.tells((0,), spare, read("some some ax ; each each ax"))
        self.tells((2,), spare, read("each each either not ax bx ; each each ax ; some some bx ; some some xy"))
        self.tells((1,), spare, read("some each xy ; each some yx"))
        self.tells((2,), spare, read("each each either not ax bx ; some each ax ; some some bx"))

    def test_several(self):
        self.tells((0, 1), spare, read("some some ax ; some some ax"))
        self.tells((0, 1, 2), spare, read("some each xy ; some each xy ; some some xy"))
        self.tells((1, 3), spare, read("each each xy ; each some xy ; some some not ax ; some some yx"))
        self.tells((0, 1, 2, 3), spare, read("each each yes ; each some yes ; some each yes ; some some yes"))

    def test_rows_without_a_world(self):
        self.tells((0,), spare, read("some some yes ; each each no"))
        self.tells((0, 1), spare, read("some some no ; each each no"))
        self.tells((2,), spare, read("each each ax ; some some not ay ; some some bx"))

    def test_rows_of_5_demands_with_3_marks(self):
        mark = ("some", "each", ARROW)
        self.tells((0, 1, 2, 3, 4), spare, (mark, mark, mark, EACH_TO_ONE[:2] + (("to", "y", "x"),), ONE_TO_ONE))
        marks = (mark, ("some", "each", ("a", "x")), ("some", "each", ("both", ("a", "x"), ("b", "y"))))
        self.tells((1, 3), spare, marks + (("some", "some", ("b", "x")),))
        self.tells((1,), spare, marks + (EACH_TO_ONE, ("each", "some", ("both", ("to", "y", "x"), ("a", "x")))))

    def test_many_rows(self):
        chooser = Chooser(75)
        counts = []
        for many in range(6):
            for _ in range(12):
                row = chooser.row(many, 2)
                told = self.tell(spare, row)
                self.assertEqual(list(told), sorted(set(told)))
                counts.append(len(told))
                for n in range(many):
                    rest = row[:n] + row[n + 1:]
                    self.assertIs(n in told, follows(rest, row[n]) is None, row)
                    if n in told:
                        for world in small_worlds()[::9]:
                            self.assertTrue(is_kept(row[n], world) or not all_hold(rest, world))
        for count in (0, 1, 2):
            self.assertGreater(counts.count(count), 3)


if __name__ == "__main__":
    unittest.main()
