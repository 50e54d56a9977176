"""A world in which a row of demands holds, or a paper that there is none."""

from twonamed.kinds import OWN_SETTINGS, SEEN_FROM_BEHIND, Asked, all_settings, links_where, numbers_beginning
from twonamed.making import world_of_kinds
from twonamed.things import MARK_START, NEED_START, WANT_START, is_tuple_of, is_whole


# A group of kinds is a number, whose binary digit k tells whether the kind in place k is in it.
def group_of_places(places):
    return sum([1 << place for place in places])


def group_of(truths):
    return group_of_places([place for place, truth in enumerate(truths) if truth])


def places_in(group):
    return [place for place in range(group.bit_length()) if group >> place & 1 == 1]


def without(group, place):
    return group & ~(1 << place)


# For all settings that a thing y may have, the links by which it holds for x of this kind.
def links_ahead(truths, kind):
    return dict([(settings, links_where(truths, kind, settings)) for settings in all_settings(OWN_SETTINGS)])


# All kinds of a row, and what is asked of groups of them, worked out once for many groups.
class Board:
    def __init__(self, row):
        self.asked = Asked(row)
        self.kinds = self.asked.all_kinds()
        self.everyone = group_of([True for kind in self.kinds])
        self.links = self.all_links()
        self.friends = [group_of([choice != 0 for choice in choices]) for choices in self.links]
        self.needs = dict([(n, self.all_servers(n)) for n in numbers_beginning(row, NEED_START)])
        self.wants = dict([(n, self.all_servers(n)) for n in numbers_beginning(row, WANT_START)])
        marks = numbers_beginning(row, MARK_START)
        self.marked = dict([(n, self.all_marked(place)) for place, n in enumerate(marks, start=OWN_SETTINGS)])

    # For each two kinds the links between them.
    def all_links(self):
        owns = [kind[:OWN_SETTINGS] for kind in self.kinds]
        ahead = [links_ahead(self.asked.asked_by(kind), kind) for kind in self.kinds]
        found = []
        for one, own in enumerate(owns):
            found.append([ahead[one][owns[other]] & SEEN_FROM_BEHIND[ahead[other][own]] for other in range(len(owns))])
        return found

    # For each kind those that serve it. A kind that is alone enough serves itself: two things of it can be linked
    # there and back as each of them is to itself, and then what holds for one thing holds for both.
    def all_servers(self, n):
        found = []
        for one, kind in enumerate(self.kinds):
            ahead = links_ahead(self.asked.truths[n], kind)
            choices = [self.links[one][other] & ahead[y[:OWN_SETTINGS]] for other, y in enumerate(self.kinds)]
            found.append(group_of([choice != 0 for choice in choices]))
        return found

    def all_marked(self, place):
        return group_of([kind[place] == 1 for kind in self.kinds])

    def is_lacking(self, group, place, n):
        return self.needs[n][place] & group == 0

    def is_missing(self, group, n):
        if n in self.marked:
            return self.marked[n] & group == 0
        return not any([self.wants[n][place] & group != 0 for place in places_in(group)])


# The place of a kind that lacks something in this group, and the number of the demand; None where none does.
def first_lacking(board, group):
    for n in board.needs:
        for place in places_in(group):
            if board.is_lacking(group, place, n):
                return (place, n)
    return None


# The shortest paper for a group that can't be, if it is seen at a glance; else None.
def short_paper(board, group):
    if group == 0:
        return ("empty",)
    for n in list(board.marked) + list(board.wants):
        if board.is_missing(group, n):
            return ("none", n)
    return None


# The group that is left, and each kind that was left out with the number of the demand that it lacked.
def without_lacking(board, group):
    steps = []
    found = first_lacking(board, group)
    while found is not None:
        steps.append(found)
        group = without(group, found[0])
        found = first_lacking(board, group)
    return (group, steps)


def paper_of_steps(board, steps, paper):
    for step in reversed(steps):
        paper = ("lacks", board.kinds[step[0]], step[1], paper)
    return paper


# How many kinds are still to be looked at: none, if a short paper ends it.
def weight(board, group):
    rest = without_lacking(board, group)[0]
    return len(places_in(rest)) if short_paper(board, rest) is None else 0


def weight_of_split(board, group, place):
    return weight(board, without(group, place)) + weight(board, group & board.friends[place])


# Gives a pair: some kinds of the group that a world can have, or None; and then a paper for the group, or None.
def decided(board, group):
    closed = without_lacking(board, group)
    paper = short_paper(board, closed[0])
    found = decided_by_split(board, closed[0]) if paper is None else (None, paper)
    if found[0] is not None:
        return found
    return (None, paper_of_steps(board, closed[1], found[1]))


# If the kinds that clash with none of the group are enough for a world, there is no need to split it.
# Else it is split where the least is left to be looked at.
def decided_by_split(board, group):
    clashing = [place for place in places_in(group) if group & ~board.friends[place] != 0]
    peaceful = without_lacking(board, group & ~group_of_places(clashing))[0]
    if short_paper(board, peaceful) is None:
        return (peaceful, None)
    place = min(clashing, key=lambda k: weight_of_split(board, group, k))
    second = decided(board, group & board.friends[place])
    if second[0] is not None:
        return second
    first = decided(board, without(group, place))
    if first[0] is not None:
        return first
    return (None, ("splits", board.kinds[place], first[1], second[1]))


# Leaves out what can be left out, so that the world becomes small.
def fewer_kinds(board, group):
    for place in places_in(group):
        rest = without_lacking(board, without(group, place))[0]
        if short_paper(board, rest) is None:
            group = rest
    return [board.kinds[place] for place in places_in(group)]


def world_for(row):
    board = Board(row)
    group = decided(board, board.everyone)[0]
    if group is None:
        return None
    return world_of_kinds(row, board.asked, fewer_kinds(board, group))


def paper_for(row):
    board = Board(row)
    return decided(board, board.everyone)[1]


# The place of a kind that is in the group; None for any other thing. True is equal to 1, but is no setting.
def place_in(board, group, thing):
    if not isinstance(thing, tuple) or not all([is_whole(part) for part in thing]):
        return None
    found = [place for place in places_in(group) if board.kinds[place] == thing]
    return found[0] if found else None


def is_number_in(thing, by_number):
    return is_whole(thing) and thing in by_number


def is_right_none(board, group, n):
    if not is_number_in(n, board.marked) and not is_number_in(n, board.wants):
        return False
    return board.is_missing(group, n)


def is_right_lacks(board, group, place, n):
    return is_number_in(n, board.needs) and board.is_lacking(group, place, n)


# The groups and papers for them which a thing holds that begins like a paper for the group; None if it doesn't.
def inner_papers(board, group, thing):
    if is_tuple_of(thing, 1) and thing[0] == "empty":
        return [] if group == 0 else None
    if is_tuple_of(thing, 2) and thing[0] == "none":
        return [] if is_right_none(board, group, thing[1]) else None
    if not is_tuple_of(thing, 4):
        return None
    place = place_in(board, group, thing[1])
    if place is None:
        return None
    if thing[0] == "splits":
        return [(without(group, place), thing[2]), (group & board.friends[place], thing[3])]
    if thing[0] == "lacks" and is_right_lacks(board, group, place, thing[2]):
        return [(without(group, place), thing[3])]
    return None


# Papers within papers are kept in a list, and not looked at by a call within a call, as they may lie deep.
def is_paper(row, thing):
    board = Board(row)
    left = [(board.everyone, thing)]
    while left:
        part = left.pop()
        found = inner_papers(board, part[0], part[1])
        if found is None:
            return False
        left.extend(found)
    return True
