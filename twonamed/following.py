"""What follows from a row of demands, and what parts two rows."""

from twonamed.deciding import world_for
from twonamed.holding import contrary


def follows(row, demand):
    return world_for(row + (contrary(demand),))


# A world in which one holds, and a demand of other doesn't.
def parting_world(one, other):
    for demand in other:
        world = follows(one, demand)
        if world is not None:
            return world
    return None


def unlike(one, other):
    world = parting_world(one, other)
    if world is not None:
        return (0, world)
    world = parting_world(other, one)
    return None if world is None else (1, world)


def spare(row):
    return tuple([n for n, demand in enumerate(row) if follows(row[:n] + row[n + 1:], demand) is None])
