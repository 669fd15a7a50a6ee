"""Shortest ways, as strings that need not be names.

Two letters of a shortest way can change places only by exchanges of neighbours
that cross, and letters of one kind never can. So which letters may come first,
or last, is told by the letters ahead of them, or behind them.
"""


def starts_with(plan, way, kind):
    """Whether a letter of this kind can be moved to the start of the way."""
    return way.lstrip(plan.across[kind]).startswith(kind)


def without_first(plan, way, kind):
    """The rest of a way when the letter of this kind that can come first is taken out."""
    rest = way.lstrip(plan.across[kind])
    return way[:len(way) - len(rest)] + rest[1:]


def from_behind(plan, way, kind):
    """A shortest way to where this way leads, from the room behind the door of this kind."""
    if starts_with(plan, way, kind):
        return without_first(plan, way, kind)
    return kind + way


def those_across(plan, kinds, kind):
    """Those of the kinds that cross this one."""
    return "".join([other for other in kinds if other in plan.across[kind]])


def parted(plan, way, kinds):
    """A way as two: the second one has all letters of these kinds that can be moved to the end.

    If the way is a name, the first one is a name, too.
    """
    kept = []
    moved = []
    loose = kinds
    at = len(way)
    while at and loose:
        at -= 1
        if way[at] in loose:
            moved.append(way[at])
        else:
            kept.append(way[at])
            loose = those_across(plan, loose, way[at])
    return way[:at] + "".join(kept)[::-1], "".join(moved)[::-1]


def to_door(plan, way, kind):
    """The least beginning of a way behind which the door of this kind is in the same wall."""
    return parted(plan, way, kind + plan.across[kind])[0]


def first_of_both(plan, one, other):
    """The least kind that can come first in both ways, or the empty string."""
    for kind in plan.kinds:
        if starts_with(plan, one, kind) and starts_with(plan, other, kind):
            return kind
    return ""


def shared_start(plan, one, other):
    """The name of the longest beginning of both ways, and the rests of both."""
    start = ""
    kind = first_of_both(plan, one, other)
    while kind:
        start = start + kind
        one = without_first(plan, one, kind)
        other = without_first(plan, other, kind)
        kind = first_of_both(plan, one, other)
    return start, one, other


def all_cross(plan, one, other):
    """Whether each letter of the one string crosses each letter of the other."""
    return all([kind not in one or not other.lstrip(plan.across[kind]) for kind in plan.kinds])


def joined(plan, one, other):
    """The shortest way that can begin with both ways, or None if there is none."""
    rests = shared_start(plan, one, other)
    if not all_cross(plan, rests[1], rests[2]):
        return None
    return one + rests[2]
