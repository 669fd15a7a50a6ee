"""Blocks: the rooms to which ways of some kinds lead from a room."""

from crosswalls.checks import check_same_plan
from crosswalls.errors import Endless, InvalidKind, NoWalls, NotCrossing, SameKind
from crosswalls.names import ascending, behind, followed, way_between
from crosswalls.rooms import Room, room_named
from crosswalls.ways import all_cross, parted


class Block:
    """The block of a room and some kinds."""

    def __init__(self, room, kinds):
        check_kinds(room.plan, kinds)
        self.plan = room.plan
        self.room = room_named(room.plan, parted(room.plan, room.name, kinds)[0])
        self.kinds = "".join([kind for kind in room.plan.kinds if kind in kinds])
        self.many = many_rooms(room.plan, self.kinds)

    def __contains__(self, x):
        if not isinstance(x, Room) or x.plan != self.plan:
            return False
        return parted(self.plan, x.name, self.kinds)[0] == self.room.name

    def __eq__(self, other):
        return isinstance(other, Block) and self.kinds == other.kinds and self.room == other.room

    def __le__(self, other):
        if not isinstance(other, Block):
            return NotImplemented
        check_same_plan(self, other)
        return not self.kinds.strip(other.kinds) and self.room in other

    def __and__(self, other):
        if not isinstance(other, Block):
            return NotImplemented
        check_same_plan(self, other)
        # If both have a room in common, the gate of any room of the one in the other is one.
        name = name_of_gate(self.plan, self.room.name, other)
        if parted(self.plan, name, self.kinds)[0] != self.room.name:
            return None
        kinds = shared_kinds(self, other)
        return Block(room_named(self.plan, parted(self.plan, name, kinds)[0]), kinds)

    def nearest(self, room):
        """The gate of a room in the block."""
        check_same_plan(self, room)
        return room_named(self.plan, name_of_gate(self.plan, room.name, self))

    def listed(self):
        """All rooms of the block, ascending."""
        if self.many is None:
            raise Endless()
        names = [self.room.name]
        for kind in self.kinds:
            names = names + [behind(self.plan, name, kind) for name in names]
        return [room_named(self.plan, name) for name in ascending(names)]


def check_kinds(plan, kinds):
    """Raise InvalidKind or SameKind for any value that is no string of different kinds of the plan."""
    if not isinstance(kinds, str):
        raise InvalidKind(kinds)
    for at, kind in enumerate(kinds):
        if kind not in plan.kinds:
            raise InvalidKind(kind)
        if kind in kinds[:at]:
            raise SameKind(kind)


def many_rooms(plan, kinds):
    """The number of the rooms of a block with these kinds, or None if it is endless."""
    for kind in kinds:
        if kinds.strip(kind + plan.across[kind]):
            return None
    return 1 << len(kinds)


def name_of_gate(plan, name, block):
    """The name of the gate, in the block, of the room with this name."""
    way = way_between(plan, name, block.room.name)
    return followed(plan, name, parted(plan, way, block.kinds)[0])


def shared_kinds(one, other):
    """The kinds that both blocks have."""
    return "".join([kind for kind in one.kinds if kind in other.kinds])


class Bridge:
    """How two blocks are nearest to one another."""

    def __init__(self, one, other, way):
        self.way = way
        self.kinds = one.kinds
        self.one = one
        self.other = other

    def __eq__(self, other):
        if not isinstance(other, Bridge):
            return False
        return self.one == other.one and self.other == other.other and self.way == other.way


def bridge(one, other):
    """The blocks of the rooms of two blocks that are nearest to the other one, and the way between."""
    check_same_plan(one, other)
    plan = one.plan
    way = way_between(plan, one.room.name, other.room.name)
    way = parted(plan, way, other.kinds)[0]
    # The rest turned about leads back into the first block.
    back, within = parted(plan, way[::-1], one.kinds)
    start = followed(plan, one.room.name, within[::-1])
    way = followed(plan, "", back[::-1])
    kinds = "".join([kind for kind in shared_kinds(one, other) if all_cross(plan, kind, way)])
    end = followed(plan, start, way)
    return Bridge(Block(room_named(plan, start), kinds), Block(room_named(plan, end), kinds), way)


def corner(walls):
    """The block nearest to home that has the kinds of these walls and whose rooms touch them all."""
    if len(walls) == 0:
        raise NoWalls()
    for wall in walls:
        check_same_plan(walls[0], wall)
    check_crossing(walls)
    touching = block_along(walls[0])
    for wall in walls:
        touching = touching & block_along(wall)
    return Block(touching.room, "".join([wall.kind for wall in walls]))


def check_crossing(walls):
    """Raise NotCrossing for the first two walls of the list that do not cross."""
    for at, one in enumerate(walls):
        for other in walls[at + 1:]:
            if not one.crosses(other):
                raise NotCrossing(one, other)


def block_along(wall):
    """The block of all rooms that touch a wall."""
    return Block(wall.room, wall.kind + wall.plan.across[wall.kind])


def coordinates(room):
    """The letters of the room's name that belong to each part of the plan."""
    return tuple([
        "".join([letter for letter in room.name if letter in part])
        for part in room.plan.parts()
    ])
