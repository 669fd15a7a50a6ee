"""The middle of three rooms, hulls of rooms, and the rooms with the least total."""

from crosswalls.checks import check_rooms, check_same_plan, is_integer_from
from crosswalls.errors import InvalidWeights, NoneBeyond
from crosswalls.hulls import gathered, hull_doors, ways_from_behind, ways_to
from crosswalls.names import ascending, behind, followed, leads_nearer
from crosswalls.rooms import room_named
from crosswalls.walls import wall_at, wall_text
from crosswalls.ways import all_cross, shared_start, starts_with, to_door


def middle(one, two, three):
    """The room that lies between each two of three rooms."""
    check_same_plan(one, two)
    check_same_plan(one, three)
    return gate_among(one, [two, three])


def common(one, other):
    """The farthest room from home that lies between home and both rooms."""
    check_same_plan(one, other)
    return room_named(one.plan, shared_start(one.plan, one.name, other.name)[0])


def beyond_both(one, other):
    """The nearest room to home for which both rooms lie between home and it."""
    check_same_plan(one, other)
    plan = one.plan
    start, to_one, to_other = shared_start(plan, one.name, other.name)
    first = first_not_across(plan, start, to_one, to_other)
    if first is None:
        return room_named(plan, followed(plan, one.name, to_other))
    second = first_not_across(plan, start, to_other, first[1])
    raise NoneBeyond(first[0], second[0])


def first_not_across(plan, start, way, kinds):
    """The first wall on a way, in the order of walls, that does not cross all walls beside the way.

    Those are the walls of the doors of these kinds on another way from the room
    start that begins with none of the same doors: a wall crosses them all if
    all letters that must be passed up to it cross their kinds. The result is
    the wall and these letters, or None.
    """
    found = {}
    for at, kind in enumerate(way):
        letters = to_door(plan, way[:at], kind) + kind
        if not all_cross(plan, letters, kinds):
            wall = wall_at(plan, followed(plan, start, way[:at]), kind)
            found[wall_text(wall)] = (wall, letters)
    if not found:
        return None
    return found[ascending(found)[0]]


def gate(room, rooms):
    """The nearest room of the hull of the rooms."""
    check_rooms(rooms)
    check_same_plan(room, rooms[0])
    return gate_among(room, rooms)


def gate_among(room, rooms):
    """The gate of a room in the hull of rooms of its plan."""
    plan = room.plan
    ways = ways_to(room, rooms)
    # A wall parts the room from all others exactly if it lies on what all ways share.
    start = ways[0]
    for way in ways:
        start = shared_start(plan, start, way)[0]
    return room_named(plan, followed(plan, room.name, start))


def in_hull(room, rooms):
    """Whether the room is in the hull of the rooms."""
    check_rooms(rooms)
    check_same_plan(room, rooms[0])
    ways = ways_to(room, rooms)
    return not any([all([starts_with(room.plan, way, kind) for way in ways]) for kind in room.plan.kinds])


def hull(rooms, *, most=2000):
    """All rooms of the hull, ascending."""
    check_rooms(rooms)
    return rooms_named(rooms[0].plan, hull_doors(rooms, most))


def rooms_named(plan, names):
    """The rooms with these names, ascending."""
    return [room_named(plan, name) for name in ascending(names)]


def checked_weights(rooms, weights):
    """The weights, each 1 if there are none; InvalidWeights for all that are not as they should be."""
    if weights is None:
        return [1 for _ in rooms]
    if not isinstance(weights, (list, tuple)) or len(weights) != len(rooms):
        raise InvalidWeights(weights)
    if not all([is_integer_from(1, weight) for weight in weights]):
        raise InvalidWeights(weights)
    return list(weights)


def weight_behind(plan, ways, weights, kind):
    """The weights of the rooms to which this door leads nearer."""
    return sum([weight for way, weight in zip(ways, weights) if starts_with(plan, way, kind)])


def better_door(plan, ways, weights):
    """The kind of a door to a room with a lesser total, or the empty string."""
    whole = sum(weights)
    for kind in plan.kinds:
        if 2 * weight_behind(plan, ways, weights, kind) > whole:
            return kind
    return ""


def some_centre(rooms, weights):
    """The name of a room with the least total, and the ways from it to all rooms."""
    plan = rooms[0].plan
    name = rooms[0].name
    ways = ways_to(rooms[0], rooms)
    kind = better_door(plan, ways, weights)
    while kind:
        name = behind(plan, name, kind)
        ways = ways_from_behind(plan, ways, kind)
        kind = better_door(plan, ways, weights)
    return name, ways


def least_total(rooms, weights=None):
    """The least total of all rooms of the floor."""
    check_rooms(rooms)
    weights = checked_weights(rooms, weights)
    ways = some_centre(rooms, weights)[1]
    return sum([len(way) * weight for way, weight in zip(ways, weights)])


def centres(rooms, weights=None, *, most=2000):
    """All rooms with the least total, ascending."""
    check_rooms(rooms)
    weights = checked_weights(rooms, weights)
    plan = rooms[0].plan
    name, ways = some_centre(rooms, weights)
    return rooms_named(plan, gathered(plan, name, ways, most, is_level(weights)))


def is_level(weights):
    """A test for gathered: whether a door of a centre leads to another one."""
    whole = sum(weights)
    return lambda plan, ways, kind: 2 * weight_behind(plan, ways, weights, kind) == whole


def centre(rooms, weights=None):
    """The first room with the least total."""
    check_rooms(rooms)
    weights = checked_weights(rooms, weights)
    plan = rooms[0].plan
    name, ways = some_centre(rooms, weights)
    level = is_level(weights)
    # Centres are a closed set, so doors within it lead to its nearest room to home.
    kind = door_home(plan, name, ways, level)
    while kind:
        name = behind(plan, name, kind)
        ways = ways_from_behind(plan, ways, kind)
        kind = door_home(plan, name, ways, level)
    return room_named(plan, name)


def door_home(plan, name, ways, leads):
    """The kind of a door that leads nearer home and that the test takes, or the empty string."""
    for kind in plan.kinds:
        if leads_nearer(plan, name, kind) and leads(plan, ways, kind):
            return kind
    return ""
