"""0.3, 5.1, 5.2: is_paper, of any thing."""

import unittest

from plain import is_plain_paper, plain_kinds
from samples import (Asking, Chooser, ODD_THINGS, ROWS_WITHOUT_A_WORLD, is_kept, swapped_part, too_few_or_many,
                     with_list_at_each_level, wrapped)
from twonamed.deciding import is_paper, paper_for, world_for
from twonamed.kinds import kinds
from twonamed.reading import read
from twonamed.worlds import all_worlds

EMPTY = read("each each no")

# There is but one kind, (1, 1, 1), and it lacks what demand 1 asks.
LACKS = read("each each both ax both bx xx ; each some not ay")
LACKS_PAPER = ("lacks", (1, 1, 1), 1, ("empty",))

# There are two kinds, which clash.
SPLITS = read("each each both ax both bx either both xx yy both not xx not yy ; some some xx ; some some not xx")
SPLITS_PAPER = ("splits", (1, 1, 0), ("none", 2), ("none", 1))

# Kinds have two marks; none has the second one.
MARKED = read("some each ax ; each each bx ; some each not by ; some some yes")

# Kinds are marked a, and clash if just one of them is marked b; (1, 0, 1) lacks what demand 1 asks.
MIXED = read("each each both ax either both bx by both not bx not by ; each some either not xx bx"
             " ; some some not bx ; some some both bx xx")
MIXED_PAPER = ("lacks", (1, 0, 1), 1, ("splits", (1, 0, 0), ("none", 2), ("none", 3)))

# One thing has arrows to all, another has one from none; so two kinds that have these marks clash.
BY_MARKS = read("each each both ax bx ; some each xy ; some each not yx")
BY_MARKS_PAPER = ("splits", (1, 1, 1, 1, 0), ("none", 1), ("none", 2))

PAPERS = (
    (EMPTY, ("empty",)),
    (LACKS, LACKS_PAPER),
    (SPLITS, SPLITS_PAPER),
    (SPLITS, ("splits", (1, 1, 1), ("none", 1), ("none", 2))),
    (MARKED, ("none", 2)),
    (MIXED, MIXED_PAPER),
    (MIXED, ("splits", (1, 0, 0), ("lacks", (1, 0, 1), 1, ("none", 2)), ("none", 3))),
    (BY_MARKS, BY_MARKS_PAPER),
)

WORDS = ("empty", "none", "lacks", "splits", "lack", "Empty", "", None, 0, ("none",), ["none"])
NUMBERS = (-1, 0, 1, 2, 3, 4, 5, 10 ** 20, True, False, None, "0", (0,), [1])
ENDS = (("empty",), ("none", 0), ("none", 1), ("none", 2), ("none", 3), ("none",), ("empty", 0), (), None, [],
        ["empty"], ["none", 1], True, 0, "empty")


def other_kinds(row, kind):
    """All kinds of the row, some that it doesn't have, and things that are nearly kinds."""
    near = [kind[:-1], kind + (0,), kind + (1,), (), list(kind), tuple([bool(part) for part in kind]),
            tuple([setting == 1 if place == 0 else setting for place, setting in enumerate(kind)]),
            swapped_part(kind, 0, 2), swapped_part(kind, 1, -1), swapped_part(kind, 2, None),
            swapped_part(kind, 0, [1]), swapped_part(kind, 1, "1"), None, 0, "kind"]
    return list(plain_kinds(row)) + near + [swapped_part(kind, place, 1 - kind[place]) for place in range(len(kind))]


def spoilt_here(row, paper):
    found = [swapped_part(paper, 0, word) for word in WORDS] + too_few_or_many(paper, paper[-1])
    if paper[0] in ("lacks", "splits"):
        found += [swapped_part(paper, 1, kind) for kind in other_kinds(row, paper[1])]
    for place, part in enumerate(paper):
        if place > 0 and type(part) is int:
            found += [swapped_part(paper, place, number) for number in NUMBERS]
        if place > 1 and type(part) is tuple:
            found += [swapped_part(paper, place, end) for end in ENDS]
    return found


def spoilt(row, paper):
    """Things that come of a paper if it is changed at one place, itself or somewhere within; some are papers too."""
    found = spoilt_here(row, paper)
    for place, part in enumerate(paper):
        if place > 1 and type(part) is tuple:
            found += [swapped_part(paper, place, other) for other in spoilt(row, part)]
    return found


class Papers(Asking, unittest.TestCase):
    def is_one(self, row, thing):
        self.tells(True, is_paper, row, thing)

    def is_none(self, row, *things):
        for thing in things:
            self.tells(False, is_paper, row, thing)

    def test_right_ones(self):
        for row, paper in PAPERS:
            self.is_one(row, paper)
            self.assertTrue(is_plain_paper(row, paper))
            self.assertIsNone(world_for(row))

    def test_a_paper_of_another_row(self):
        for row, paper in PAPERS:
            for other, _ in PAPERS:
                self.tells(is_plain_paper(other, paper), is_paper, other, paper)
            self.is_none((), paper)
            self.is_none((("some", "some", "yes"),) * 4, paper)
            self.is_none((("each", "some", "yes"),) * 4, paper)

    def test_empty(self):
        self.is_one(EMPTY, ("empty",))
        self.is_none(EMPTY, ("empty", ("empty",)), ("empty", 0), ("empty", ()), "empty", ["empty"], (["empty"],), ())
        for row in ((), LACKS, SPLITS, MARKED, MIXED, BY_MARKS):
            self.is_none(row, ("empty",))

    def test_none_of_a_demand_that_begins_with_some_and_some(self):
        self.is_one((("some", "some", "no"),), ("none", 0))
        row = read("some some yes ; some some both ax not ax ; each some no ; each each ax")
        self.is_one(row, ("none", 1))
        self.is_none(row, ("none", 0), ("none", 2), ("none", 3), ("none", 4), ("none", -1), ("none", True),
                     ("none", "1"), ("none", None), ("none", (1,)), ("none", [1]), ("none",), ("none", 1, 1),
                     ("none", 1, ("empty",)), ["none", 1], ("nonel", 1), (1, "none"))

    def test_none_is_wrong_if_a_kind_is_alone_enough(self):
        self.is_none((("some", "some", ("to", "x", "y")),), ("none", 0))
        one_kind = "each each both ax both bx either not xy both xx yy ; "
        self.is_none(read(one_kind + "some some xx"), ("none", 1))
        self.is_one(read(one_kind + "some some both xy not xx"), ("none", 1))

    def test_none_is_wrong_if_two_kinds_serve(self):
        one_kind = "each each both ax both bx not xx ; "
        self.is_none(read(one_kind + "some some xy"), ("none", 1))
        self.is_none(read(one_kind + "some some both xy not yx"), ("none", 1))
        self.is_one(read(one_kind + "some some both xy not xy"), ("none", 1))
        two_kinds = "each each both ax both bx not both xx yy ; "
        self.is_none(read(two_kinds + "some some both not xx not yy"), ("none", 1))
        up = "each each both ax both bx either xx either yy not xy ; "
        self.is_none(read(up + "some some both xx not yy"), ("none", 1))
        self.is_none(read(up + "some some both not xx yy"), ("none", 1))
        self.is_one(read(up + "some some both xy both not xx not yy"), ("none", 1))

    def test_none_of_a_mark(self):
        self.is_one(MARKED, ("none", 2))
        self.is_none(MARKED, ("none", 0), ("none", 1), ("none", 3), ("none", 4))
        three = (("some", "each", "yes"), ("each", "each", ("a", "x")), ("some", "each", ("a", "x")),
                 ("some", "each", ("not", ("a", "x"))), ("some", "some", "yes"))
        self.is_one(three, ("none", 3))
        self.is_none(three, ("none", 0), ("none", 1), ("none", 2), ("none", 4), ("none", 5))
        self.is_one(tuple(reversed(three)), ("none", 1))
        self.is_none(tuple(reversed(three)), ("none", 0), ("none", 2), ("none", 3), ("none", 4))

    def test_none_where_there_are_no_kinds(self):
        row = read("each each no ; some some yes ; some each yes ; each some no")
        self.is_one(row, ("none", 1))
        self.is_one(row, ("none", 2))
        self.is_one(row, ("empty",))
        self.is_none(row, ("none", 0), ("none", 3))

    def test_lacks(self):
        self.is_one(LACKS, LACKS_PAPER)
        self.is_none(LACKS, ("lacks", (1, 1, 0), 1, ("empty",)), ("lacks", (1, 1, 1), 0, ("empty",)),
                     ("lacks", (1, 1, 1), 2, ("empty",)), ("lacks", (1, 1, 1), True, ("empty",)),
                     ("lacks", (1, 1, True), 1, ("empty",)), ("lacks", [1, 1, 1], 1, ("empty",)),
                     ("lacks", (1, 1, 1), 1, ["empty"]), ("lacks", (1, 1, 1), 1), ("lacks", (1, 1, 1), ("empty",)),
                     ("lacks", (1, 1, 1), 1, ("empty",), ("empty",)), ["lacks", (1, 1, 1), 1, ("empty",)],
                     ("lacks", (1, 1, 1), 1, LACKS_PAPER), ("splits", (1, 1, 1), 1, ("empty",)),
                     ("lacks", (1, 1, 1), 1, ("none", 1)), ("lacks", (1, 1, 1, 0), 1, ("empty",)))

    def test_lacks_is_wrong_if_the_kind_is_alone_enough_or_served(self):
        want = " ; some some no"
        for text, right in (("each some no", True), ("each some ax", False), ("each some not ay", False),
                            ("each some xx", True), ("each some xy", False), ("each some both xy not xx", False),
                            ("each some both xy both ax not ay", False), ("each some both xy not bx", True)):
            row = read("each each either bx not ax ; " + text + want)
            self.tells(right, is_paper, row, ("lacks", (1, 1, 0), 1, ("none", 2)))
        row = read("each each both bx either ax ay ; each some both xy not ay ; some some no")
        self.is_one(row, ("lacks", (1, 1, 0), 1, ("none", 2)))

    def test_lacks_depends_on_the_kinds_that_are_left(self):
        row = read("each each both ax bx ; each some both not xx yy")
        for loop in (0, 1):
            self.tells(loop == 1, is_paper, row, ("lacks", (1, 1, loop), 1, ("lacks", (1, 1, 1 - loop), 1, ("empty",))))

    def test_splits(self):
        self.is_one(SPLITS, SPLITS_PAPER)
        self.is_none(SPLITS, ("splits", (1, 1, 0), ("none", 1), ("none", 2)),
                     ("splits", (1, 1, 1), ("none", 2), ("none", 1)), ("splits", (1, 1, 0), ("none", 2), ("none", 2)),
                     ("splits", (1, 0, 0), ("none", 2), ("none", 1)),
                     ("splits", (1, True, 0), ("none", 2), ("none", 1)),
                     ("splits", (1, 1, False), ("none", 2), ("none", 1)),
                     ("splits", [1, 1, 0], ("none", 2), ("none", 1)),
                     ("splits", (1, 1, 0), ("none", 2)), ("splits", (1, 1, 0), ("none", 2), ("none", 1), ("none", 1)),
                     ("splits", (1, 1, 0), ["none", 2], ("none", 1)), ("splits", (1, 1, 0), ("none", 2), ["none", 1]),
                     ("splits", (1, 1, 0), ("none", 2), ("empty",)), ("splits", (1, 1, 0), ("empty",), ("none", 1)),
                     ("splits", (1, 1, 0), None, ("none", 1)), ("splits", (1, 1, 0), ("none", 2), None),
                     ("lacks", (1, 1, 0), ("none", 2), ("none", 1)), ["splits", (1, 1, 0), ("none", 2), ("none", 1)])

    def test_splits_at_a_kind_that_clashes_with_none(self):
        row = (("some", "some", "no"),)
        end = ("none", 0)
        once = ("splits", (0, 0, 0), end, end)
        self.is_one(row, once)
        self.is_one(row, ("splits", (0, 0, 0), end, once))
        self.is_one(row, wrapped(end, lambda paper: ("splits", (0, 0, 0), end, paper), 40))
        self.is_none(row, ("splits", (0, 0, 0), once, end))

    def test_the_kind_itself_is_among_those_that_do_not_clash_with_it(self):
        row = read("each each both ax bx ; each each either both xx yy both not xx not yy"
                   " ; some some xx ; some some not xx")
        self.is_one(row, ("splits", (1, 1, 1), ("none", 2), ("none", 3)))
        self.is_none(row, ("splits", (1, 1, 1), ("none", 2), ("empty",)),
                     ("splits", (1, 1, 1), ("none", 2), ("none", 2)))

    def test_a_kind_that_is_no_longer_there(self):
        row = read("each each both ax bx ; each some no")
        first, second = (1, 1, 0), (1, 1, 1)
        self.is_one(row, ("lacks", first, 1, ("lacks", second, 1, ("empty",))))
        self.is_none(row, ("lacks", first, 1, ("lacks", first, 1, ("lacks", second, 1, ("empty",)))),
                     ("lacks", first, 1, ("splits", first, ("lacks", second, 1, ("empty",)), ("empty",))),
                     ("lacks", first, 1, ("empty",)),
                     ("lacks", first, 1, ("lacks", second, 1, ("lacks", second, 1, ("empty",)))))

    def test_marks_that_clash(self):
        self.is_one(BY_MARKS, BY_MARKS_PAPER)
        for kind in kinds(BY_MARKS):
            self.tells(kind == (1, 1, 1, 1, 0), is_paper, BY_MARKS, ("splits", kind, ("none", 1), ("none", 2)))


class OtherThings(Asking, unittest.TestCase):
    def test_odd_things(self):
        for row in ((), EMPTY, LACKS, SPLITS, MARKED, MIXED, BY_MARKS):
            self.is_told(lambda thing: is_paper(row, thing), False, ODD_THINGS)
            self.is_told(lambda thing: is_paper(row, thing), False, [(word,) for word in WORDS[1:]])

    def test_lists_for_tuples(self):
        for row, paper in PAPERS:
            self.is_told(lambda thing: is_paper(row, thing), False, with_list_at_each_level(paper))

    def test_deep_things(self):
        for row in (EMPTY, LACKS, SPLITS):
            self.is_not_told_of_deep_things(lambda thing: is_paper(row, thing))

    def test_deep_things_that_look_like_papers(self):
        wraps = (lambda thing: ("lacks", (1, 1, 1), 1, thing), lambda thing: ("splits", (1, 1, 1), thing, thing),
                 lambda thing: ("splits", (1, 1, 0), ("none", 2), thing), lambda thing: ("none", thing),
                 lambda thing: ("splits", (1, 1, 0), thing, ("none", 1)), lambda thing: ("empty", thing),
                 lambda thing: ("splits", thing, thing, thing), lambda thing: ["lacks", (1, 1, 1), 1, thing])
        for wrap in wraps:
            for core in ("yes", ("a", "x"), 0, True, None, [], ()):
                for times in (1, 2, 30, 33):
                    for row in (LACKS, SPLITS):
                        self.assertIs(is_paper(row, wrapped(core, wrap, times)), False)


class SpoiltPapers(Asking, unittest.TestCase):
    def looked_at(self, row, paper):
        """Whether those that are spoilt at one place are papers nevertheless."""
        truths = []
        for thing in spoilt(row, paper):
            truths.append(is_plain_paper(row, thing))
            self.tells(truths[-1], is_paper, row, thing)
        return truths

    def test_papers_by_hand(self):
        for row, paper in PAPERS:
            self.assertGreater(self.looked_at(row, paper).count(False), 10)

    def test_told_papers(self):
        papers = [paper_for(read(text)) for text in ROWS_WITHOUT_A_WORLD]
        short = [(read(text), paper) for text, paper in zip(ROWS_WITHOUT_A_WORLD, papers, strict=True)
                 if len(repr(paper)) < 250]
        self.assertEqual(sorted(set([paper[0] for _, paper in short])), ["empty", "lacks", "none", "splits"])
        for row, paper in short:
            self.assertGreater(self.looked_at(row, paper).count(False), 10)

    def test_told_papers_of_many_rows(self):
        chooser = Chooser(60)
        words = []
        while len(words) < 12:
            row = chooser.row_with_marks(chooser.below(3), 1 + chooser.below(2), 3)
            paper = paper_for(row)
            if paper is not None and len(repr(paper)) < 250:
                words.append(paper[0])
                self.looked_at(row, paper)

    def test_a_row_with_a_world_has_no_paper(self):
        chooser = Chooser(61)
        papers = [paper for _, paper in PAPERS]
        for _ in range(30):
            row = chooser.row(3, 2)
            if [world for world in all_worlds(1) if all([is_kept(demand, world) for demand in row])]:
                self.is_told(lambda thing: is_paper(row, thing), False, papers)


if __name__ == "__main__":
    unittest.main()
