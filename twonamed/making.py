"""A world made of kinds, no two of which clash, and which serve one another."""

from twonamed.holding import case_of, holds_in_case
from twonamed.kinds import holds_alone, links_in, numbers_beginning
from twonamed.things import NEED_START, WANT_START


# A world in the making: the kinds, so many times over, and the links between things that are settled.
class Making:
    def __init__(self, row, asked, kinds, copies):
        self.needs = numbers_beginning(row, NEED_START)
        self.asked = asked
        self.things = list(kinds) * copies
        self.settled = {}

    def settle(self, s, t, link):
        self.settled[(s, t)] = link
        self.settled[(t, s)] = (link[1], link[0])

    def holds_by(self, n, s, t, link):
        return holds_in_case(self.asked.truths[n], case_of(self.things[s], self.things[t], link[0], link[1]))

    def is_served(self, n, s):
        if holds_alone(self.asked.truths[n], self.things[s]):
            return True
        joined = [t for t in range(len(self.things)) if (s, t) in self.settled]
        return any([self.holds_by(n, s, t, self.settled[(s, t)]) for t in joined])

    # For how many needs of both things a link is good.
    def use_of(self, s, t, link):
        ahead = [n for n in self.needs if self.holds_by(n, s, t, link)]
        behind = [n for n in self.needs if self.holds_by(n, t, s, (link[1], link[0]))]
        return len(ahead) + len(behind)

    # Settles the link between two things so that the form holds for them; tells whether that could be done.
    def settle_for(self, n, s, t):
        if (s, t) in self.settled:
            return False
        found = links_in(self.asked.links_serving(n, self.things[s], self.things[t]))
        if len(found) == 0:
            return False
        self.settle(s, t, max(found, key=lambda link: self.use_of(s, t, link)))
        return True

    # The things behind s are tried first, round and round: with copies enough, each thing finds what it needs
    # among the nearest ones behind it, to which it is not near itself, so that no two things want the same link.
    def serve(self, n, s):
        if self.is_served(n, s):
            return True
        many = len(self.things)
        for step in range(1, many):
            if self.settle_for(n, s, (s + step) % many):
                return True
        return False

    def serve_one(self, n):
        for s in range(len(self.things)):
            if self.serve(n, s):
                return True
        return False

    def serve_each(self, n):
        for s in range(len(self.things)):
            if not self.serve(n, s):
                return False
        return True

    def settle_the_rest(self):
        for s, one in enumerate(self.things):
            for t in range(s):
                if (s, t) not in self.settled:
                    self.settle(s, t, links_in(self.asked.links_between(one, self.things[t]))[0])

    def world(self):
        marked_a = tuple([s for s, kind in enumerate(self.things) if kind[0] == 1])
        marked_b = tuple([s for s, kind in enumerate(self.things) if kind[1] == 1])
        to_themselves = [(s, s) for s, kind in enumerate(self.things) if kind[2] == 1]
        to_others = [pair for pair in self.settled if self.settled[pair][0] == 1]
        return (len(self.things), marked_a, marked_b, tuple(sorted(to_themselves + to_others)))


# None where more copies are needed.
def world_of_copies(row, asked, kinds, copies):
    making = Making(row, asked, kinds, copies)
    for n in numbers_beginning(row, WANT_START):
        if not making.serve_one(n):
            return None
    for n in making.needs:
        if not making.serve_each(n):
            return None
    making.settle_the_rest()
    return making.world()


# With v demands whose second word is some, 2 * v + 1 copies are always enough.
def world_of_kinds(row, asked, kinds):
    copies = 1
    world = world_of_copies(row, asked, kinds, copies)
    while world is None:
        copies += 1
        world = world_of_copies(row, asked, kinds, copies)
    return world
