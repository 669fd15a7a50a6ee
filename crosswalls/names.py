"""Names: how the name of a room changes as a way leads on.

The shortest ways to a room differ only by exchanges of neighbours that cross.
So what a further letter does to a name is told by the letters at the end of
the name that cross this letter, and by the one letter ahead of these.
"""


def behind(plan, name, kind):
    """The name of the room behind the door of this kind."""
    stem = name.rstrip(plan.across[kind])
    tail = name[len(stem):]
    if stem.endswith(kind):
        return stem[:-1] + tail
    # The new letter may stand anywhere in the tail; the least way has it
    # ahead of the first letter that is greater.
    late = tail.lstrip(plan.lesser[kind])
    early = tail[:len(tail) - len(late)]
    return stem + early + kind + late


def followed(plan, name, way):
    """The name of the room to which a way leads from the room with this name."""
    for kind in way:
        name = behind(plan, name, kind)
    return name


def leads_nearer(plan, name, kind):
    """Whether the door of this kind leads nearer home from the room with this name."""
    return name.rstrip(plan.across[kind]).endswith(kind)


def barred_after(plan, barred, kind):
    """The kinds that may not follow in a name at whose end this kind was put.

    The kinds in barred might not follow ahead of that.
    """
    return "".join([other for other in plan.kinds if is_barred_after(plan, barred, kind, other)])


def is_barred_after(plan, barred, kind, other):
    """Whether the kind other is one of those that barred_after tells."""
    if other == kind:
        return True
    # A letter that can be exchanged with the last one meets what barred it before.
    return other in plan.across[kind] and (other < kind or other in barred)


def way_between(plan, one, other):
    """The name of the way from the room with the one name to that with the other."""
    alike = 0
    for own, strange in zip(one, other):
        if own != strange:
            break
        alike += 1
    return followed(plan, "", one[alike:][::-1] + other[alike:])


def ascending(texts):
    """Strings in the order of rooms: shorter ones first, then by the alphabet."""
    return sorted(sorted([str(text) for text in texts]), key=len)
