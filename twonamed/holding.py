"""When forms, demands and rows of demands hold in a world."""

from twonamed.worlds import all_worlds

OPPOSITE_WORDS = {"each": "some", "some": "each"}

# What a form asks of two things is settled by eight settings: whether x is marked a, is marked b, has an arrow to
# itself, the same three of y, and whether there is an arrow from y to x, and from x to y. Taken as binary digits,
# the lowest one first, they number a case. The truths of a form are one number, whose digit c tells whether the form
# holds in case c: so a form is walked once, and not once for each two things.
ALL_CASES = 0xFFFFFFFFFFFFFFFFFFFFFFFFFFFFFFFFFFFFFFFFFFFFFFFFFFFFFFFFFFFFFFFF
FLAT_TRUTHS = {
    "yes": 0xFFFFFFFFFFFFFFFFFFFFFFFFFFFFFFFFFFFFFFFFFFFFFFFFFFFFFFFFFFFFFFFF,
    "no": 0,
    ("a", "x"): 0xAAAAAAAAAAAAAAAAAAAAAAAAAAAAAAAAAAAAAAAAAAAAAAAAAAAAAAAAAAAAAAAA,
    ("b", "x"): 0xCCCCCCCCCCCCCCCCCCCCCCCCCCCCCCCCCCCCCCCCCCCCCCCCCCCCCCCCCCCCCCCC,
    ("to", "x", "x"): 0xF0F0F0F0F0F0F0F0F0F0F0F0F0F0F0F0F0F0F0F0F0F0F0F0F0F0F0F0F0F0F0F0,
    ("a", "y"): 0xFF00FF00FF00FF00FF00FF00FF00FF00FF00FF00FF00FF00FF00FF00FF00FF00,
    ("b", "y"): 0xFFFF0000FFFF0000FFFF0000FFFF0000FFFF0000FFFF0000FFFF0000FFFF0000,
    ("to", "y", "y"): 0xFFFFFFFF00000000FFFFFFFF00000000FFFFFFFF00000000FFFFFFFF00000000,
    ("to", "y", "x"): 0xFFFFFFFFFFFFFFFF0000000000000000FFFFFFFFFFFFFFFF0000000000000000,
    ("to", "x", "y"): 0xFFFFFFFFFFFFFFFFFFFFFFFFFFFFFFFF00000000000000000000000000000000,
}


def truths_of(form):
    if form[0] == "not":
        return ALL_CASES ^ truths_of(form[1])
    if form[0] == "both":
        return truths_of(form[1]) & truths_of(form[2])
    if form[0] == "either":
        return truths_of(form[1]) | truths_of(form[2])
    return FLAT_TRUTHS[form]


def holds_in_case(truths, case):
    return truths >> case & 1 == 1


# Whether it is marked a, is marked b, and has an arrow to itself.
def own_settings(world, k):
    return (int(k in world[1]), int(k in world[2]), int((k, k) in world[3]))


# Of x and y only the first three settings count, so that kinds can stand for things.
def case_of(one, other, there, back):
    own = one[0] + 2 * one[1] + 4 * one[2]
    others = other[0] + 2 * other[1] + 4 * other[2]
    return own + 8 * others + 64 * back + 128 * there


# For each thing x a list of its cases with each thing y.
def cases_in(world):
    settings = [own_settings(world, k) for k in range(world[0])]
    arrows = dict([(arrow, 1) for arrow in world[3]])
    found = []
    for x, one in enumerate(settings):
        found.append([case_of(one, other, arrows.get((x, y), 0), arrows.get((y, x), 0))
                      for y, other in enumerate(settings)])
    return found


def is_so(word, truths):
    return any(truths) if word == "some" else all(truths)


def holds_with(word, truths, cases):
    return is_so(word, [holds_in_case(truths, case) for case in cases])


def holds_among(demand, truths, cases):
    return is_so(demand[0], [holds_with(demand[1], truths, cases_of_x) for cases_of_x in cases])


def first_failing(row, truths, cases):
    for n, demand in enumerate(row):
        if not holds_among(demand, truths[n], cases):
            return n
    return None


def truths_of_row(row):
    return [truths_of(demand[2]) for demand in row]


def form_holds(form, world, x, y):
    there = int((x, y) in world[3])
    back = int((y, x) in world[3])
    return holds_in_case(truths_of(form), case_of(own_settings(world, x), own_settings(world, y), there, back))


def failing(row, world):
    return first_failing(row, truths_of_row(row), cases_in(world))


def holds(row, world):
    return failing(row, world) is None


def demand_holds(demand, world):
    return holds((demand,), world)


def contrary(demand):
    return (OPPOSITE_WORDS[demand[0]], OPPOSITE_WORDS[demand[1]], ("not", demand[2]))


def worlds_of(row, many):
    truths = truths_of_row(row)
    return tuple([world for world in all_worlds(many) if first_failing(row, truths, cases_in(world)) is None])
