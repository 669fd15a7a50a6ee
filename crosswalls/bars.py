"""Bars: how a lot is told from one of its rooms.

For each half of the lot, the least way from the room through the wall of the
half is its bar. A shortest way from the room leaves the lot exactly if it can
begin with a bar. Bars are names, and no two halves have the same one.
"""

from crosswalls.names import behind, followed, leads_nearer, way_between
from crosswalls.ways import starts_with, those_across, to_door


def bar_to(plan, name, wall):
    """The least way through a wall from the room with this name."""
    way = way_between(plan, name, wall.room.name)
    return to_door(plan, way, wall.kind) + wall.kind


def is_in(plan, name, half):
    """Whether the room with this name is in a half."""
    way = way_between(plan, name, half.wall.room.name)
    return leads_nearer(plan, way, half.wall.kind) == half.far


def start_within(plan, halves):
    """The name of the nearest room to home that all of the halves have.

    If they have none in common, a half misses the room of this name.
    """
    name = ""
    for half in halves:
        if not is_in(plan, name, half):
            # Between rooms of the halves ahead of this one lie only such rooms.
            name = followed(plan, name, bar_to(plan, name, half.wall))
    return name


def bars_from(plan, name, halves):
    """The bars of halves from a room that is in all of them."""
    return [bar_to(plan, name, half.wall) for half in halves]


def least_halves(plan, bars, halves):
    """Those of the halves, each once, whose bars do not begin with other ones; a dict by their bars."""
    by_bar = {bar: half for bar, half in zip(bars, halves)}
    # Many bars begin alike, so it is kept for each beginning whether it passes a bar.
    clear = {"": True}
    for bar in by_bar:
        for at in range(len(bar) - 1):
            start = bar[:at + 1]
            if start not in clear:
                clear[start] = clear[bar[:at]] and bar_at_end(plan, start) not in by_bar
    return {bar: by_bar[bar] for bar in by_bar if clear[bar[:-1]]}


def bar_at_end(plan, way):
    """The least way through the wall that the last letter of a name passes."""
    return to_door(plan, way[:-1], way[-1]) + way[-1]


def places_beyond(plan, bars, way):
    """The places of the letters of a name whose doors are out of the lot.

    A way without these letters leads to the gate of the room at its end.
    """
    places = []
    within = ""
    free = plan.kinds
    for at, kind in enumerate(way):
        # What does not cross a wall out of the lot lies beyond this wall.
        if kind in free and bar_at_end(plan, within + kind) not in bars:
            within = within + kind
        else:
            places.append(at)
            free = those_across(plan, free, kind)
    return places


def passes(plan, bars, way):
    """Whether a way from the room, a name, can begin with one of the bars."""
    return any([bar_at_end(plan, way[:at + 1]) in bars for at in range(len(way))])


def without(way, places):
    """The way without the letters at these places."""
    return "".join([kind for at, kind in enumerate(way) if at not in places])


# The state of a room that is reached by names: the kinds that may not come next,
# as one string, and behind it the longer bars from this room. A name goes on with
# the kinds that a bar does not shut, and that would not have come earlier in it.


def first_state(plan, bars):
    """The state of the room from which the bars lead."""
    return state_of(plan, "", bars)


def state_of(plan, shut, bars):
    """The state with these kinds and bars; bars that no way can pass any more are left out."""
    shut = shut + "".join([bar for bar in bars if len(bar) == 1])
    shut = "".join([kind for kind in plan.kinds if kind in shut])
    longer = [bar for bar in bars if len(bar) > 1 and not begins_with_one(plan, bar, shut)]
    return (shut,) + tuple(sorted(set(longer)))


def begins_with_one(plan, way, kinds):
    """Whether one of these kinds can come first in the way."""
    return any([starts_with(plan, way, kind) for kind in kinds])


def state_behind(plan, state, kind):
    """The state of the room behind a door that is not shut."""
    # Names have a kind ahead of the lesser one that crosses it only if it could not be behind.
    shut = kind + plan.lesser[kind] + those_across(plan, state[0], kind)
    bars = [bar_behind(plan, bar, kind) for bar in state[1:]]
    return state_of(plan, shut, [bar for bar in bars if bar is not None])


def bar_behind(plan, bar, kind):
    """The rest of a bar behind a door that leads on, or None if no way that leads on can pass it."""
    rest = bar.lstrip(plan.across[kind])
    if not rest:
        return bar
    if rest.startswith(kind):
        return followed(plan, bar[:len(bar) - len(rest)], rest[1:])
    return None


def layers(plan, name, bars, most):
    """The names of all rooms of a lot, with their states, in lists by their distance from a room.

    The bars lead from the room with this name. None for more than most rooms.
    """
    found = []
    many = 0
    layer = [(name, first_state(plan, bars))]
    while layer:
        found.append(layer)
        many += len(layer)
        if many > most:
            return None
        layer = [
            (behind(plan, near, kind), state_behind(plan, state, kind))
            for near, state in layer for kind in plan.kinds if kind not in state[0]
        ]
    return found
