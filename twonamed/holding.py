"""When forms, demands and rows of demands hold in a world."""

from twonamed.worlds import all_worlds

OPPOSITE_WORDS = {"each": "some", "some": "each"}


def named_form_holds(form, world, x, y):
    things = [x if name == "x" else y for name in form[1:]]
    if form[0] == "to":
        return (things[0], things[1]) in world[3]
    if form[0] == "a":
        return things[0] in world[1]
    return things[0] in world[2]


def form_holds(form, world, x, y):
    if isinstance(form, str):
        return form == "yes"
    if form[0] == "not":
        return not form_holds(form[1], world, x, y)
    if form[0] == "both":
        return form_holds(form[1], world, x, y) and form_holds(form[2], world, x, y)
    if form[0] == "either":
        return form_holds(form[1], world, x, y) or form_holds(form[2], world, x, y)
    return named_form_holds(form, world, x, y)


# For some, one thing with which it holds settles it; for each, one with which it doesn't.
def holds_with(demand, world, x):
    settling = demand[1] == "some"
    for y in range(world[0]):
        if form_holds(demand[2], world, x, y) == settling:
            return settling
    return not settling


def demand_holds(demand, world):
    settling = demand[0] == "some"
    for x in range(world[0]):
        if holds_with(demand, world, x) == settling:
            return settling
    return not settling


def failing(row, world):
    for n, demand in enumerate(row):
        if not demand_holds(demand, world):
            return n
    return None


def holds(row, world):
    return failing(row, world) is None


def contrary(demand):
    return (OPPOSITE_WORDS[demand[0]], OPPOSITE_WORDS[demand[1]], ("not", demand[2]))


def worlds_of(row, many):
    return tuple([world for world in all_worlds(many) if holds(row, world)])
