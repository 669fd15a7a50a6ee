"""Hulls of rooms, and what is told by the ways from one room to all of a list.

A way of these begins with a door exactly if the wall of the door parts the
room from the one to which the way leads.
"""

from crosswalls.errors import TooMany
from crosswalls.names import behind, way_between
from crosswalls.ways import from_behind, starts_with


def ways_to(room, rooms):
    """A shortest way from the room to each of the rooms."""
    return [way_between(room.plan, room.name, other.name) for other in rooms]


def ways_from_behind(plan, ways, kind):
    """The ways to the same rooms, from the room behind the door of this kind."""
    return [from_behind(plan, way, kind) for way in ways]


def leads_to_one(plan, ways, kind):
    """Whether the door leads nearer to one of the rooms."""
    return any([starts_with(plan, way, kind) for way in ways])


def gathered(plan, name, ways, most, leads):
    """The rooms to which doors lead, one after the other, that a test takes.

    leads(plan, ways, kind) is asked of the ways from each room. The result has,
    for the name of each room, the kinds that it takes. TooMany for more rooms
    than most, unless this is None.
    """
    found = {}
    waiting = {name: ways}
    while waiting:
        behind_them = {}
        for name in waiting:
            kinds = "".join([kind for kind in plan.kinds if leads(plan, waiting[name], kind)])
            found[name] = kinds
            for kind in kinds:
                other = behind(plan, name, kind)
                if other not in found and other not in waiting and other not in behind_them:
                    behind_them[other] = ways_from_behind(plan, waiting[name], kind)
        if most is not None and len(found) + len(behind_them) > most:
            raise TooMany(most)
        waiting = behind_them
    return found


def hull_doors(rooms, most=None):
    """For the name of each room of a hull the kinds of its doors that lead within the hull."""
    plan = rooms[0].plan
    return gathered(plan, rooms[0].name, ways_to(rooms[0], rooms), most, leads_to_one)
