"""The shortest homes of the motions that are alike to one."""

from crosswalls.names import ascending, followed
from crosswalls.renames import renamed


def settled(plan, home, renaming):
    """The first home of all alike motions, and the name of a room from which this one is seen like that.

    A motion seen from the room behind a door has another home, mostly; as long
    as it does not get longer, this leads to all shortest homes.
    """
    found = {home: ""}
    shorter = home
    while shorter is not None:
        found, shorter = level_of(plan, shorter, found[shorter], renaming)
    first = ascending(found)[0]
    return first, found[first]


def level_of(plan, home, room, renaming):
    """All homes of one length to which steps from this one lead, with the rooms from which they are seen.

    Beside this dict the result has a shorter home, with which it ends, or None.
    """
    found = {home: room}
    waiting = [home]
    at = 0
    while at < len(waiting):
        name = waiting[at]
        at += 1
        for kind in plan.kinds:
            other = followed(plan, kind, name + renamed(plan, renaming, kind))
            if other not in found and len(other) <= len(name):
                found[other] = followed(plan, found[name], kind)
                waiting.append(other)
            if len(other) < len(name):
                return found, other
    return found, None
