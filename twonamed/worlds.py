"""All worlds of a size, and worlds made of worlds."""


# All ways to take some of the parts, each in the order of the parts.
def choices(parts):
    found = [()]
    for part in parts:
        found = found + [chosen + (part,) for chosen in found]
    return found


def all_pairs(many):
    return [(k // many, k % many) for k in range(many * many)]


def all_worlds(many):
    marks = choices(list(range(many)))
    arrow_choices = choices(all_pairs(many))
    found = []
    for marked_a in marks:
        for marked_b in marks:
            found.extend([(many, marked_a, marked_b, arrows) for arrows in arrow_choices])
    return sorted(found)


def remade_marks(marked, becomes):
    found = []
    for k in marked:
        found.extend(becomes[k])
    return tuple(sorted(found))


def remade_arrows(arrows, becomes):
    found = []
    for arrow in arrows:
        for start in becomes[arrow[0]]:
            found.extend([(start, end) for end in becomes[arrow[1]]])
    return tuple(sorted(found))


# Each thing k becomes the things in becomes[k], of which there may be none, one or several.
def remade(world, many, becomes):
    marked_a = remade_marks(world[1], becomes)
    marked_b = remade_marks(world[2], becomes)
    return (many, marked_a, marked_b, remade_arrows(world[3], becomes))


def beside(one, other):
    many = one[0] + other[0]
    moved = remade(other, many, [(k + one[0],) for k in range(other[0])])
    return (many, one[1] + moved[1], one[2] + moved[2], one[3] + moved[3])


def doubled(world):
    many = world[0]
    return remade(world, many + many, [(k, k + many) for k in range(many)])


# Two things are alike just if their looks are equal: at the arrows' other ends
# the same things must stand, and these may be the two themselves.
def look_of(world, k):
    reached = [arrow[1] for arrow in world[3] if arrow[0] == k]
    reaching = [arrow[0] for arrow in world[3] if arrow[1] == k]
    return (k in world[1], k in world[2], reached, reaching)


def first_of_alike(world):
    looks = [look_of(world, k) for k in range(world[0])]
    return [k for k in range(world[0]) if looks.index(looks[k]) == k]


# What is left is lean at once: of two things that are left, the arrow by which they differ
# goes to or from a thing that is left, or to or from one that is alike to such a one.
def lean_world(world):
    kept = first_of_alike(world)
    becomes = [(kept.index(k),) if k in kept else () for k in range(world[0])]
    return remade(world, len(kept), becomes)


def turned_world(world):
    arrows = [(arrow[1], arrow[0]) for arrow in world[3]]
    return (world[0], world[1], world[2], tuple(sorted(arrows)))


def swapped_world(world):
    return (world[0], world[2], world[1], world[3])


def shuffled(world, names):
    return remade(world, world[0], [(name,) for name in names])
