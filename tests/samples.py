"""What several tests share: sample things, and ways to ask."""

import copy
import itertools

FLAT_FORMS = (
    "yes", "no",
    ("a", "x"), ("a", "y"), ("b", "x"), ("b", "y"),
    ("to", "x", "x"), ("to", "x", "y"), ("to", "y", "x"), ("to", "y", "y"),
)

# Neither a form, nor a row, nor a world.
ODD_THINGS = (
    0, 1, 2, 4, 5, -1, 10 ** 30, True, False, None,
    "", " ", "-", "x", "y", "a", "b", "to", "not", "both", "either", "each", "some",
    "Yes", "YES", "yes ", " no", "yesno", "ax", "xy", "not yes", "each each yes", "\n", "\u00e9",
    [], [()], [[]], ["yes"], ["a", "x"], [1, [], [], []], [1, (), (), ()], [("each", "each", "yes")],
    (0,), (True,), (None,), ("",), ("yes",), ("x",), ([],), ((),), ((), ()), ("x", "y"), ("each", "some"),
    (1, 2), (None, None, None), ([], [], []), ("yes", "no", "yes", "no"), ("a", "b", "x", "y", "to"),
)


def pairings(forms):
    pairs = list(itertools.product(forms, forms))
    return [("both", one, other) for one, other in pairs] + [("either", one, other) for one, other in pairs]


def forms_one_deep():
    return [("not", form) for form in FLAT_FORMS] + pairings(FLAT_FORMS)


def wrapped(core, wrap, times):
    for _ in range(times):
        core = wrap(core)
    return core


# Ways to wrap a thing once more, lists and odd ones too.
WRAPS = (
    lambda thing: (thing,),
    lambda thing: [thing],
    lambda thing: ("not", thing),
    lambda thing: ["not", thing],
    lambda thing: ("both", "yes", thing),
    lambda thing: ("either", thing, "no"),
    lambda thing: ("a", thing),
    lambda thing: ("to", "x", thing),
    lambda thing: ("each", "some", thing),
    lambda thing: (("each", "some", thing),),
    lambda thing: (1, (), thing, ()),
    lambda thing: (1, (), (), (thing,)),
    lambda thing: (thing, (), (), ()),
)

# These hold a thing several times: thirty deep, they are too many to be read to the bottom.
BUSHY_WRAPS = (
    lambda thing: (thing, thing),
    lambda thing: [thing, thing],
    lambda thing: ("both", thing, thing),
    lambda thing: ("either", thing, thing),
    lambda thing: ("to", thing, thing),
    lambda thing: (("each", "some", thing), ("each", "each", thing)),
    lambda thing: (1, thing, thing, thing),
    lambda thing: (2, (), (), (thing, thing)),
)

DEEP_CORES = ("yes", ("a", "x"), 0, True, None, [], ())


def deep_things(wraps):
    return [wrapped(core, wrap, times) for core in DEEP_CORES for wrap in wraps for times in (28, 30, 33)]


def swapped_part(thing, place, part):
    return thing[:place] + (part,) + thing[place + 1:]


def with_list_at_each_level(thing):
    """All things that come of it when one tuple, itself or somewhere within, becomes a list."""
    if not isinstance(thing, tuple):
        return []
    found = [list(thing)]
    for place, part in enumerate(thing):
        found += [swapped_part(thing, place, changed) for changed in with_list_at_each_level(part)]
    return found


def too_few_or_many(thing, extra):
    return [thing[:-1], thing[1:], thing + (extra,), (extra,) + thing, thing + thing]


class Asking:
    """Asked twice, a function tells the same, and leaves what it was handed as it was."""

    def tell(self, function, thing):
        before = copy.deepcopy(thing)
        told = function(thing)
        self.assertEqual(repr(thing), repr(before))
        again = function(thing)
        self.assertEqual(repr(again), repr(told))
        self.assertEqual(repr(thing), repr(before))
        self.assertEqual(repr(function(before)), repr(told))
        return told

    def is_told(self, function, truth, things):
        for thing in things:
            self.assertIs(self.tell(function, thing), truth, repr(thing))

    def is_not_told_of_deep_things(self, function):
        self.is_told(function, False, deep_things(WRAPS))
        for thing in deep_things(BUSHY_WRAPS):
            self.assertIs(function(thing), False)
