"""Kinds of things, and the arrows that there may be between things of two kinds."""

from twonamed.holding import ALL_CASES, case_of, cases_in, holds_in_case, holds_with, own_settings, truths_of_row
from twonamed.things import MARK_START, RULE_START

OWN_SETTINGS = 3

# A choice of links is a number, whose binary digit k tells whether the link in place k is in it.
ALL_LINKS = ((0, 0), (0, 1), (1, 0), (1, 1))
# For each choice of links, the one with the same links seen from the other thing: (0, 1) and (1, 0) are exchanged.
SEEN_FROM_BEHIND = (0, 1, 4, 5, 2, 3, 6, 7, 8, 9, 12, 13, 10, 11, 14, 15)


def numbers_beginning(row, start):
    return [n for n, demand in enumerate(row) if demand[:2] == start]


# In rising order, as each setting is put ahead of those that are there.
def all_settings(many):
    found = [()]
    while len(found[0]) < many:
        found = [(0,) + settings for settings in found] + [(1,) + settings for settings in found]
    return found


# With one thing for x and y, both arrows between them are its arrow to itself.
def holds_alone(truths, kind):
    return holds_in_case(truths, case_of(kind, kind, kind[2], kind[2]))


# The links by which it holds for x of kind one and y of kind other:
# the cases of two kinds lie 64 apart from one another, in the order of the links.
def links_where(truths, one, other):
    cases = truths >> case_of(one, other, 0, 0)
    return (cases & 1) | (cases >> 63 & 2) | (cases >> 126 & 4) | (cases >> 189 & 8)


def links_in(choice):
    return [link for place, link in enumerate(ALL_LINKS) if choice >> place & 1 == 1]


# What the forms of a row ask, worked out once for many kinds.
class Asked:
    def __init__(self, row):
        self.truths = truths_of_row(row)
        self.marks = [self.truths[n] for n in numbers_beginning(row, MARK_START)]
        self.always = ALL_CASES
        for n in numbers_beginning(row, RULE_START):
            self.always = self.always & self.truths[n]

    # The truths of what must hold whenever a thing of this kind is x.
    def asked_by(self, kind):
        found = self.always
        for place, truths in enumerate(self.marks, start=OWN_SETTINGS):
            if kind[place] == 1:
                found = found & truths
        return found

    def all_kinds(self):
        settings = all_settings(OWN_SETTINGS + len(self.marks))
        return [kind for kind in settings if holds_alone(self.asked_by(kind), kind)]

    def links_between(self, one, other):
        ahead = links_where(self.asked_by(one), one, other)
        behind = links_where(self.asked_by(other), other, one)
        return ahead & SEEN_FROM_BEHIND[behind]

    def links_serving(self, n, one, other):
        return self.links_between(one, other) & links_where(self.truths[n], one, other)


def kind_of(row, world, k):
    cases = cases_in(world)[k]
    marks = [int(holds_with("each", truths, cases)) for truths in Asked(row).marks]
    return own_settings(world, k) + tuple(marks)


def kinds(row):
    return tuple(Asked(row).all_kinds())


def links(row, one, other):
    return tuple(links_in(Asked(row).links_between(one, other)))


def serves(row, n, one, other):
    found = links_in(Asked(row).links_serving(n, one, other))
    return found[0] if found else None


def alone(row, n, one):
    return holds_alone(Asked(row).truths[n], one)
