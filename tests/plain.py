"""Kinds, links and papers told in the plainest way, straight from the document's words, to hold the program against.

A kind is looked at in a world of one thing, a link in a world of two, by samples.pairs_where.
"""

import functools
import itertools

from samples import pairs_where

RULE = ("each", "each")
NEED = ("each", "some")
MARK = ("some", "each")
WANT = ("some", "some")
LINKS = ((0, 0), (0, 1), (1, 0), (1, 1))


def marks_of(row):
    return [demand[2] for demand in row if demand[:2] == MARK]


def lone_world(kind):
    return (1, (0,) * kind[0], (0,) * kind[1], ((0, 0),) * kind[2])


# Thing 0 is of kind one, thing 1 of kind other.
def pair_world(one, other, link):
    marked_a = (0,) * one[0] + (1,) * other[0]
    marked_b = (0,) * one[1] + (1,) * other[1]
    arrows = ((0, 0),) * one[2] + ((0, 1),) * link[0] + ((1, 0),) * link[1] + ((1, 1),) * other[2]
    return (2, marked_a, marked_b, arrows)


def asked_forms(row, kind):
    """The forms that hold for a thing of this kind as x, whatever y is."""
    rules = [demand[2] for demand in row if demand[:2] == RULE]
    return rules + [form for form, setting in zip(marks_of(row), kind[3:], strict=True) if setting == 1]


def all_kinds(row):
    return list(itertools.product((0, 1), repeat=3 + len(marks_of(row))))


@functools.cache
def plain_kinds(row):
    return tuple([kind for kind in all_kinds(row)
                  if all([(0, 0) in pairs_where(form, lone_world(kind)) for form in asked_forms(row, kind)])])


def is_link(row, one, other, link):
    world = pair_world(one, other, link)
    ahead = [(0, 1) in pairs_where(form, world) for form in asked_forms(row, one)]
    back = [(1, 0) in pairs_where(form, world) for form in asked_forms(row, other)]
    return all(ahead + back)


@functools.cache
def plain_links(row, one, other):
    return tuple([link for link in LINKS if is_link(row, one, other, link)])


@functools.cache
def plain_serves(row, n, one, other):
    found = [link for link in plain_links(row, one, other)
             if (0, 1) in pairs_where(row[n][2], pair_world(one, other, link))]
    return found[0] if found else None


@functools.cache
def plain_alone(row, n, one):
    return (0, 0) in pairs_where(row[n][2], lone_world(one))


def plain_kind_of(row, world, k):
    every = [(k, y) for y in range(world[0])]
    marks = [all([pair in pairs_where(form, world) for pair in every]) for form in marks_of(row)]
    return tuple([int(truth) for truth in [k in world[1], k in world[2], (k, k) in world[3]] + marks])


def is_number(row, thing, starts):
    return type(thing) is int and 0 <= thing < len(row) and row[thing][:2] in starts


def is_one_of(kinds, thing):
    return type(thing) is tuple and [type(part) for part in thing] == [int] * len(thing) and thing in kinds


def is_lacking(row, kinds, kind, n):
    if plain_alone(row, n, kind):
        return False
    return not [other for other in kinds if plain_serves(row, n, kind, other) is not None]


def is_missing(row, kinds, n):
    if row[n][:2] == MARK:
        place = 3 + len(marks_of(row[:n]))
        return not [kind for kind in kinds if kind[place] == 1]
    if [kind for kind in kinds if plain_alone(row, n, kind)]:
        return False
    pairs = itertools.product(kinds, kinds)
    return not [pair for pair in pairs if plain_serves(row, n, pair[0], pair[1]) is not None]


def is_plain_paper_for(row, kinds, thing):
    if type(thing) is not tuple or not thing:
        return False
    word, parts = thing[0], thing[1:]
    if word == "empty" and len(parts) == 0:
        return not kinds
    if word == "none" and len(parts) == 1:
        return is_number(row, parts[0], (WANT, MARK)) and is_missing(row, kinds, parts[0])
    if len(parts) != 3 or not is_one_of(kinds, parts[0]):
        return False
    kind = parts[0]
    rest = [other for other in kinds if other != kind]
    if word == "lacks":
        return (is_number(row, parts[1], (NEED,)) and is_lacking(row, kinds, kind, parts[1])
                and is_plain_paper_for(row, rest, parts[2]))
    if word == "splits":
        friends = [other for other in kinds if plain_links(row, kind, other)]
        return is_plain_paper_for(row, rest, parts[1]) and is_plain_paper_for(row, friends, parts[2])
    return False


def is_plain_paper(row, thing):
    return is_plain_paper_for(row, list(plain_kinds(row)), thing)
