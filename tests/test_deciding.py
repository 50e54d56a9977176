"""0.2 (b), 0.3, 0.4, 0.6, 5.2: world_for and paper_for, of which one tells and never both."""

import unittest

from plain import is_plain_paper
from samples import (AGREE_ON_A, Asking, Chooser, FLAT_FORMS, ONE_WAY, ROWS_WITHOUT_A_WORLD, ROWS_WITH_A_WORLD, STARTS,
                     all_worlds, forms_one_deep, is_kept, wrapped)
from twonamed.deciding import is_paper, paper_for, world_for
from twonamed.holding import holds, worlds_of
from twonamed.reading import read

ARROW = ("to", "x", "y")
BACK = ("to", "y", "x")


class Deciding(Asking, unittest.TestCase):
    def is_rightly_shaped(self, world):
        many, marked_a, marked_b, arrows = world
        self.assertIs(type(many), int)
        self.assertGreater(many, 0)
        for parts in (marked_a, marked_b, arrows):
            self.assertIs(type(parts), tuple)
            self.assertEqual(list(parts), sorted(set(parts)))
        for k in marked_a + marked_b + tuple([end for arrow in arrows for end in arrow]):
            self.assertIs(type(k), int)
            self.assertIn(k, range(many))
        for arrow in arrows:
            self.assertIs(type(arrow), tuple)
            self.assertEqual(len(arrow), 2)

    def has_a_world(self, row):
        """The world, behind a look whether it is one for the row."""
        world = self.tell(world_for, row)
        self.tells(None, paper_for, row)
        self.is_rightly_shaped(world)
        self.assertIs(holds(row, world), True, (row, world))
        for demand in row:
            self.assertTrue(is_kept(demand, world), (row, world))
        return world

    def has_a_paper(self, row):
        self.tells(None, world_for, row)
        paper = self.tell(paper_for, row)
        self.assertIs(is_paper(row, paper), True, (row, paper))
        self.assertTrue(is_plain_paper(row, paper), (row, paper))
        for many in (1, 2):
            self.assertEqual(worlds_of(row, many), (), row)
        return paper

    def has_one_of_both(self, row):
        """True for a world."""
        if world_for(row) is None:
            self.has_a_paper(row)
            return False
        self.has_a_world(row)
        return True


class Rows(Deciding):
    def test_the_empty_row(self):
        self.has_a_world(())

    def test_rows_without_a_world(self):
        for text in ROWS_WITHOUT_A_WORLD:
            self.has_a_paper(read(text))

    def test_rows_with_a_world(self):
        for text in ROWS_WITH_A_WORLD:
            self.has_a_world(read(text))

    def test_demands_in_another_order(self):
        chooser = Chooser(50)
        for texts, asked in ((ROWS_WITHOUT_A_WORLD, self.has_a_paper), (ROWS_WITH_A_WORLD, self.has_a_world)):
            for text in texts:
                row = read(text)
                asked(tuple([row[n] for n in chooser.order(len(row))]))
                asked(row[::-1])
                asked(row + row[:1])

    def test_each_small_demand(self):
        for form in list(FLAT_FORMS) + forms_one_deep():
            for start in STARTS:
                row = (start + (form,),)
                few = [world for world in all_worlds(1) if is_kept(row[0], world)]
                truth = self.has_one_of_both(row)
                self.assertTrue(truth or not few)

    def test_what_a_paper_begins_with(self):
        self.assertEqual(self.has_a_paper((("each", "each", "no"),)), ("empty",))
        self.assertEqual(self.has_a_paper((("some", "some", "no"),))[0], "none")
        self.assertEqual(self.has_a_paper((("some", "each", "no"),))[0], "none")
        self.assertEqual(self.has_a_paper((("each", "some", "no"),))[0], "lacks")
        self.assertEqual(self.has_a_paper(read(AGREE_ON_A + " ; some some ax ; some some not ax"))[0], "splits")


class LargeWorlds(Deciding):
    def needs(self, least, row):
        self.assertGreaterEqual(self.has_a_world(row)[0], least)

    def test_three_things(self):
        self.needs(3, read(ONE_WAY + " ; each some xy"))
        self.needs(3, read("each some both xy not yx ; each each either not xx ax ; each each not ax"))
        self.needs(3, read("some some both ax bx ; some some both ax not bx ; some some not ax"))

    def test_four_things(self):
        self.needs(4, read("some some both ax bx ; some some both ax not bx ; some some both not ax bx ; "
                           "some some not either ax bx"))
        both_marks = ("either ax ay ; each some not either ax ay")
        self.has_a_paper(read("each each " + both_marks))

    def test_a_ring_through_all_kinds(self):
        self.needs(8, (("each", "some", next_number_form()),))

    def test_arrows_one_way_in_a_ring_through_all_kinds(self):
        form = ("both", ("both", ARROW, ("not", BACK)), next_number_form())
        self.needs(8, (("each", "some", form),))

    def test_several_needs_at_once(self):
        ways = [("both", ARROW, ("not", BACK)), ("both", BACK, ("not", ARROW)), ("both", ARROW, BACK),
                ("not", ("either", ARROW, BACK))]
        row = tuple([("each", "some", ("both", way, ("not", ("to", "x", "x")))) for way in ways[:3]])
        self.needs(4, row)
        self.needs(4, row + (("each", "some", ways[3]),))
        unlooped = ("both", ("b", "y"), ("not", ("to", "y", "y")))
        apart = tuple([("each", "some", ("both", way, unlooped)) for way in ways])
        self.needs(4, apart)
        self.needs(4, apart + (("some", "some", ("both", ("a", "x"), ("not", ("a", "y")))),))

    def test_several_wants_between_things_of_one_kind(self):
        alike = (("each", "each", ("both", ("a", "x"), ("both", ("b", "x"), ("not", ("to", "x", "x"))))),)
        wants = (("some", "some", ("both", ARROW, ("not", BACK))), ("some", "some", ("both", ARROW, BACK)))
        self.needs(3, alike + wants)
        self.needs(3, alike + wants + (("each", "some", ("both", BACK, ("not", ARROW))),))

    def test_needs_that_are_in_one_anothers_way(self):
        alike = ("each", "each", ("not", ("to", "x", "x")))
        one_way = ("each", "each", ("not", ("both", ARROW, BACK)))
        row = (alike, one_way, ("each", "some", ("both", ARROW, ("a", "y"))),
               ("each", "some", ("both", BACK, ("a", "y"))))
        self.needs(3, row)
        self.needs(5, row + (("each", "some", ("both", ARROW, ("not", ("a", "y")))),))


class SmallWorlds(Deciding):
    """Not promised, but what is told should be no larger than it must, for those who look at it."""

    def has_just(self, many, text):
        self.assertEqual(self.has_a_world(read(text))[0], many)

    def test_one_thing(self):
        for text in ("-", "each some xx", "each some ax ; each some by", "some some both xy ax", "some each both xy bx",
                     "each each xy ; each some yx ; some some xx"):
            self.has_just(1, text)

    def test_two_things(self):
        for text in ("some some both ax not ay", "each each not xx ; each some xy", "some some both xy not xx",
                     "each each not xx ; each some xy ; each some yx ; some some both xy yx",
                     "each some both xy either both ax not ay both not ax ay"):
            self.has_just(2, text)

    def test_three_things(self):
        self.has_just(3, ONE_WAY + " ; each some xy")
        self.has_just(3, ONE_WAY + " ; each some xy ; each some yx ; some some either xy yx")


# The settings of y, read as a number, are one more than those of x, round and round.
def next_number_form():
    def same(one, other):
        return ("either", ("both", one, other), ("not", ("either", one, other)))

    def unlike(one, other):
        return ("not", same(one, other))

    loop = (("to", "x", "x"), ("to", "y", "y"))
    low, middle = (("a", "x"), ("a", "y")), (("b", "x"), ("b", "y"))
    middle_moves = ("either", ("both", low[0], unlike(*middle)), ("both", ("not", low[0]), same(*middle)))
    carry = ("both", low[0], middle[0])
    loop_moves = ("either", ("both", carry, unlike(*loop)), ("both", ("not", carry), same(*loop)))
    return ("both", unlike(*low), ("both", middle_moves, loop_moves))


class ManyRows(Deciding):
    def are_both_there(self, truths, least):
        self.assertGreater(truths.count(True), least)
        self.assertGreater(truths.count(False), least)

    def test_small_rows(self):
        chooser = Chooser(51)
        truths = []
        for many in range(5):
            for _ in range(60):
                truths.append(self.has_one_of_both(chooser.row(many, 3)))
        self.are_both_there(truths, 30)

    def test_rows_with_a_world_of_2_things_have_a_world(self):
        chooser = Chooser(52)
        seen = 0
        for many in range(1, 5):
            for _ in range(40):
                row = chooser.row(many, 2)
                if worlds_of(row, 2):
                    seen += 1
                    self.has_a_world(row)
        self.assertGreater(seen, 40)

    def test_rows_with_a_world_of_3_and_4_things_have_a_world(self):
        chooser = Chooser(53)
        seen = 0
        for _ in range(400):
            row, world = chooser.row(4, 2), chooser.world(3 + chooser.below(2))
            if holds(row, world):
                seen += 1
                self.has_a_world(row)
        self.assertGreater(seen, 20)

    def test_rows_of_5_demands_with_3_marks(self):
        chooser = Chooser(54)
        self.are_both_there([self.has_one_of_both(chooser.row_with_marks(3, 2, 3)) for _ in range(25)], 3)

    def test_rows_of_5_demands_with_3_marks_by_hand(self):
        down = "some each either not ay xy ; some each either ay xy"
        self.has_a_paper(read(down) + read("some each not yx ; each each either xy not xy ; some some ax"))
        self.has_a_world(read(down) + read("some each ax ; each some not ay ; some some both xy not yx"))
        self.has_a_paper(read(down) + read("some each both ax not yx ; each some not ax ; each each either xy yx"))
        self.has_a_paper(read("some each xy ; some each yx")
                         + read("some each both bx not xy ; some some bx ; each some by"))

    def test_rows_of_5_demands_of_all_beginnings(self):
        chooser = Chooser(55)
        for marks in range(4):
            for _ in range(8):
                self.has_one_of_both(chooser.row_with_marks(marks, 5 - marks, 4))

    def test_deep_forms(self):
        chooser = Chooser(56)
        truths = [self.has_one_of_both(chooser.row(many, 12)) for many in range(1, 6) for _ in range(6)]
        self.are_both_there(truths, 3)


class DeepForms(Deciding):
    def test_full_forms_12_deep(self):
        full = [wrapped(form, lambda form: ("both", form, form), 12) for form in (ARROW, ("not", BACK), ("a", "x"))]
        self.assertIsNotNone(world_for((("some", "each", full[0]), ("some", "some", full[2]))))
        row = tuple([("some", "each", form) for form in full]) + (("each", "some", full[0]), ("each", "each", full[2]))
        self.assertIsNone(world_for(row))
        self.assertIs(is_paper(row, paper_for(row)), True)

    def test_forms_12_deep(self):
        for form, answer in ((ARROW, self.has_a_world), ("no", self.has_a_paper)):
            deep = wrapped(form, lambda form: ("not", form), 12)
            for start in STARTS:
                answer((start + (deep,),))
        self.has_a_paper((("some", "some", wrapped("yes", lambda form: ("not", form), 11)),))


if __name__ == "__main__":
    unittest.main()
