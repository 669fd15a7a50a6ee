"""Paintings for the tests, each with the colours of all rooms near home, which share nothing with the package."""

from crosswalls.closed import Closed
from crosswalls.paintings import Painting
from crosswalls.rooms import Room
from tests.tables import all_mirrors, all_tables, lists, some_tables, state_after

COLOURS = ["red", "blue", "green"]


def by_tables(near, tables, colours):
    return {name: colours[state_after(near.plan, tables, name)] for name in near.names}


def some_states(dice, plan):
    """Tables and colours as Painting takes them."""
    many = dice.randrange(1, 5)
    tables = some_tables(dice, plan, all_tables(many))
    return lists(tables), [dice.choice(COLOURS) for _ in range(many)]


def some_mirrors(dice, plan):
    many = dice.randrange(1, 5)
    tables = some_tables(dice, plan, all_mirrors(many))
    return lists(tables), [dice.choice(COLOURS) for _ in range(many)]


def some_region(dice, near):
    """A region, and the colours of the rooms near home."""
    plan = near.plan
    centre = dice.choice(near.within(2))
    pick = dice.randrange(3)
    if pick == 0 or not plan.kinds:
        distance = dice.randrange(3)
        inside = [name for name in near.names if near.distance(centre, name) <= distance]
        painting = Painting.ball(Room(plan, centre), distance)
    elif pick == 1:
        wall, far = dice.choice([wall for wall in near.every_wall if len(wall[0]) <= 2]), dice.random() < 0.5
        inside = near.having([(wall, far)])
        painting = Painting.of_half(near.half(wall, far))
    else:
        tables, colours = some_states(dice, plan)
        told = by_tables(near, tables, colours)
        inside = [name for name in near.names if told[name] == "red"]
        painting = Painting(plan, tables, colours).where("red")
    return painting, {name: "yes" if name in inside else "no" for name in near.names}


def some_painting(dice, near):
    """A painting, and the colours of the rooms near home."""
    plan = near.plan
    pick = dice.randrange(4)
    if pick == 0:
        tables, colours = some_states(dice, plan)
        return Painting(plan, tables, colours), by_tables(near, tables, colours)
    tables, colours = some_mirrors(dice, plan)
    told = by_tables(near, tables, colours)
    painting = Painting.of_closed(Closed(plan, tables), found_colours(plan, tables, colours))
    if pick == 1:
        return painting, told
    region, inside = some_region(dice, near)
    return painting.filled(region, "grey"), {name: "grey" if inside[name] == "yes" else told[name] for name in told}


def found_colours(plan, tables, colours):
    """The colours of the places in the order in which they are found."""
    order = [0]
    for place in order:
        order += [other for other in dict.fromkeys(table[place] for table in tables) if other not in order]
    return [colours[place] for place in order]


def first_of(names):
    return min(names, key=lambda name: (len(name), name), default=None)
