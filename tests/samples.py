"""What several tests share: sample things, and ways to ask."""

import copy
import itertools

from twonamed.holding import holds

FLAT_FORMS = (
    "yes", "no",
    ("a", "x"), ("a", "y"), ("b", "x"), ("b", "y"),
    ("to", "x", "x"), ("to", "x", "y"), ("to", "y", "x"), ("to", "y", "y"),
)

# Neither a form, nor a row, nor a world.
ODD_THINGS = (
    0, 1, 2, 4, 5, -1, 10 ** 30, True, False, None,
    "", " ", "-", "x", "y", "a", "b", "to", "not", "both", "either", "each", "some",
    "Yes", "YES", "yes ", " no", "yesno", "ax", "xy", "not yes", "each each yes", "\n", "\u00e9",
    [], [()], [[]], ["yes"], ["a", "x"], [1, [], [], []], [1, (), (), ()], [("each", "each", "yes")],
    (0,), (True,), (None,), ("",), ("yes",), ("x",), ([],), ((),), ((), ()), ("x", "y"), ("each", "some"),
    (1, 2), (None, None, None), ([], [], []), ("yes", "no", "yes", "no"), ("a", "b", "x", "y", "to"),
)


def pairings(forms):
    pairs = list(itertools.product(forms, forms))
    return [("both", one, other) for one, other in pairs] + [("either", one, other) for one, other in pairs]


def forms_one_deep():
    return [("not", form) for form in FLAT_FORMS] + pairings(FLAT_FORMS)


def wrapped(core, wrap, times):
    for _ in range(times):
        core = wrap(core)
    return core


# Ways to make a form one deeper.
DEEPENING = (
    lambda form: ("not", form),
    lambda form: ("both", form, "yes"),
    lambda form: ("both", ("a", "x"), form),
    lambda form: ("either", form, ("to", "x", "y")),
    lambda form: ("either", "no", form),
    lambda form: ("both", form, form),
    lambda form: ("either", form, form),
)

# Ways to wrap a thing once more, lists and odd ones too.
WRAPS = (
    lambda thing: (thing,),
    lambda thing: [thing],
    lambda thing: ("not", thing),
    lambda thing: ["not", thing],
    lambda thing: ("both", "yes", thing),
    lambda thing: ("either", thing, "no"),
    lambda thing: ("a", thing),
    lambda thing: ("to", "x", thing),
    lambda thing: ("each", "some", thing),
    lambda thing: (("each", "some", thing),),
    lambda thing: (1, (), thing, ()),
    lambda thing: (1, (), (), (thing,)),
    lambda thing: (thing, (), (), ()),
)

# These hold a thing several times: thirty deep, they are too many to be read to the bottom.
BUSHY_WRAPS = (
    lambda thing: (thing, thing),
    lambda thing: [thing, thing],
    lambda thing: ("both", thing, thing),
    lambda thing: ("either", thing, thing),
    lambda thing: ("to", thing, thing),
    lambda thing: (("each", "some", thing), ("each", "each", thing)),
    lambda thing: (1, thing, thing, thing),
    lambda thing: (2, (), (), (thing, thing)),
)

SOME_WORLD = (3, (0, 2), (1,), ((0, 0), (0, 1), (2, 0)))
STARTS = (("each", "each"), ("each", "some"), ("some", "each"), ("some", "some"))

# For each and each: x and y are marked alike.
AGREE_ON_A = "each each either both ax ay both not ax not ay"

# No two arrows go there and back, and none to the thing where it begins.
ONE_WAY = "each each not both xy yx"

ROWS_WITHOUT_A_WORLD = (
    "each each no",
    "some some no",
    "some each no",
    "each some no",
    "each each ax ; some some not ax",
    "each each xy ; some some not yx",
    "each each xy ; each each not xx",
    "each each not xx ; some each xy",
    "each each not ax ; some each ax ; some some yes",
    "each each not xy ; each some xy",
    "each some both ax not ay",
    "each some both not ax ay ; some some not ax",
    "each some both xy not yy ; each each either not xy xx",
    "some each xy ; some each not yx",
    "some each ay ; some each not ax",
    "some each both ax xy ; some each both not ax not yx",
    "some each both ax ay ; some some not ay",
    "some each xy ; each each not both xy yx",
    AGREE_ON_A + " ; some some ax ; some some not ax",
    AGREE_ON_A + " ; some each ax ; some each not ax",
    AGREE_ON_A + " ; each some both ax not ay",
    AGREE_ON_A + " ; each some either both ax bx both not ax not bx ; some some both ax not bx",
)

ROWS_WITH_A_WORLD = (
    "-",
    "each each yes",
    "each each ax",
    "some each xy",
    "each some xy",
    "some some xy",
    "some each both ax xy ; some some not ay",
    "some some both ax not ay",
    "some some both xy not yx",
    "each some either both ax not ay both not ax ay",
    "some each xy ; some each yx ; some some not xx",
    "each each either xy yx ; some some not xy",
    AGREE_ON_A + " ; some some ax ; some some bx ; some some not bx",
    ONE_WAY + " ; each some xy",
    ONE_WAY + " ; each some xy ; some some both ax not ay ; some some both bx xy",
)

DEEP_CORES = ("yes", ("a", "x"), 0, True, None, [], ())


def deep_things(wraps):
    return [wrapped(core, wrap, times) for core in DEEP_CORES for wrap in wraps for times in (28, 30, 33)]


def swapped_part(thing, place, part):
    return thing[:place] + (part,) + thing[place + 1:]


def with_list_at_each_level(thing):
    """All things that come of it when one tuple, itself or somewhere within, becomes a list."""
    if not isinstance(thing, tuple):
        return []
    found = [list(thing)]
    for place, part in enumerate(thing):
        found += [swapped_part(thing, place, changed) for changed in with_list_at_each_level(part)]
    return found


def too_few_or_many(thing, extra):
    return [thing[:-1], thing[1:], thing + (extra,), (extra,) + thing, thing + thing]


def choices(parts):
    """All ways to take some of the parts, in their order."""
    return [found for many in range(len(parts) + 1) for found in itertools.combinations(parts, many)]


def all_worlds(many):
    marks = choices(range(many))
    arrows = choices(list(itertools.product(range(many), repeat=2)))
    return list(itertools.product([many], marks, marks, arrows))


def full_world(many):
    everything = tuple(range(many))
    return (many, everything, everything, tuple(itertools.product(everything, everything)))


class Chooser:
    """Chooses here and there, but the same in each run."""

    def __init__(self, seed):
        self.state = seed

    def below(self, bound):
        self.state = (self.state * 6364136223846793005 + 1442695040888963407) % 2 ** 64
        return (self.state >> 33) % bound

    def one_of(self, parts):
        return parts[self.below(len(parts))]

    def some_of(self, parts):
        return tuple([part for part in parts if self.below(2)])

    def form(self, depth):
        """A form that is just so deep."""
        if depth == 0:
            return self.one_of(FLAT_FORMS)
        deep, less_deep = self.form(depth - 1), self.form(self.below(min(depth, 3)))
        return self.one_of((("not", deep), ("both", deep, less_deep), ("both", less_deep, deep),
                            ("either", deep, less_deep), ("either", less_deep, deep)))

    def demand(self, depth):
        return self.one_of(STARTS) + (self.form(depth),)

    def row(self, many, deepest):
        return tuple([self.demand(self.below(deepest + 1)) for _ in range(many)])

    def row_with_marks(self, marks, others, deepest):
        """A row with just so many demands that begin with some and then each, and so many others."""
        starts = [("some", "each")] * marks
        starts += [self.one_of((("each", "each"), ("each", "some"), ("some", "some"))) for _ in range(others)]
        order = self.order(marks + others)
        return tuple([starts[n] + (self.form(self.below(deepest + 1)),) for n in order])

    def world(self, many):
        pairs = list(itertools.product(range(many), repeat=2))
        return (many, self.some_of(range(many)), self.some_of(range(many)), self.some_of(pairs))

    def order(self, many):
        left = list(range(many))
        return tuple([left.pop(self.below(len(left))) for _ in range(many)])


def pairs_where(form, world):
    """All pairs of things for x and y with which the form holds, by sets in the place of truths."""
    many, marked_a, marked_b, arrows = world
    every = set(itertools.product(range(many), repeat=2))
    if form in ("yes", "no"):
        return every if form == "yes" else set()
    if form[0] == "not":
        return every - pairs_where(form[1], world)
    if form[0] == "both":
        return pairs_where(form[1], world) & pairs_where(form[2], world)
    if form[0] == "either":
        return pairs_where(form[1], world) | pairs_where(form[2], world)
    places = ["xy".index(name) for name in form[1:]]
    if form[0] == "to":
        return set([pair for pair in every if (pair[places[0]], pair[places[1]]) in arrows])
    marked = {"a": marked_a, "b": marked_b}[form[0]]
    return set([pair for pair in every if pair[places[0]] in marked])


def is_kept(demand, world):
    """Whether the demand holds, by counting the pairs with which its form does."""
    many = world[0]
    pairs = pairs_where(demand[2], world)
    counts = [len([pair for pair in pairs if pair[0] == x]) for x in range(many)]
    least = {"each": many, "some": 1}
    return len([count for count in counts if count >= least[demand[1]]]) >= least[demand[0]]


class Asking:
    """Asked twice, a function tells the same, and leaves what it was handed as it was."""

    def tell(self, function, *things):
        before = copy.deepcopy(things)
        told = function(*things)
        self.assertEqual(repr(things), repr(before))
        again = function(*things)
        self.assertEqual(repr(again), repr(told))
        self.assertEqual(repr(things), repr(before))
        self.assertEqual(repr(function(*before)), repr(told))
        return told

    def tells(self, expected, function, *things):
        """By its writing too, for which True is not 1."""
        told = self.tell(function, *things)
        self.assertEqual(told, expected, things)
        self.assertEqual(repr(told), repr(expected), things)

    def is_told(self, function, truth, things):
        for thing in things:
            self.assertIs(self.tell(function, thing), truth, repr(thing))

    def is_not_told_of_deep_things(self, function):
        self.is_told(function, False, deep_things(WRAPS))
        for thing in deep_things(BUSHY_WRAPS):
            self.assertIs(function(thing), False)


class Keeping:
    """Rows hold in a changed world just if they do in the world."""

    def keeps_what_holds(self, change, worlds):
        chooser = Chooser(15)
        truths = []
        for world in worlds:
            changed = change(world)
            for many in range(6):
                row = chooser.row(many, 4)
                truths.append(holds(row, world))
                self.assertIs(holds(row, changed), truths[-1], (row, world))
        self.assertGreater(truths.count(True), 50)
        self.assertGreater(truths.count(False), 50)
