"""Walls, told by the nearest room that touches them and by their kind."""

from crosswalls.checks import check_kind, check_same_plan
from crosswalls.names import ascending, behind, followed
from crosswalls.rooms import room_named
from crosswalls.ways import starts_with, to_door


class Wall:
    """The wall to which the door of this kind in this room belongs."""

    def __init__(self, room, kind):
        check_kind(room.plan, kind)
        self.plan = room.plan
        self.room = room_named(room.plan, to_door(room.plan, room.name, kind))
        self.kind = kind

    def __eq__(self, other):
        return isinstance(other, Wall) and self.kind == other.kind and self.room == other.room

    def beyond(self, room):
        """Whether the wall parts the room from home."""
        check_same_plan(self, room)
        way = followed(self.plan, self.room.name[::-1], room.name)
        return starts_with(self.plan, way, self.kind)

    def touches(self, room):
        """Whether the room has a door in the wall."""
        check_same_plan(self, room)
        return to_door(self.plan, room.name, self.kind) == self.room.name

    def crosses(self, other):
        """Whether there are rooms on all four combinations of the sides of both walls."""
        check_same_plan(self, other)
        if other.kind not in self.plan.across[self.kind]:
            return False
        # Both cross exactly if a room touches both: if a way along the one
        # wall and then along the other leads from room to room.
        way = followed(self.plan, self.room.name[::-1], other.room.name)
        along = to_door(self.plan, way, other.kind)
        return not along.lstrip(self.kind + self.plan.across[self.kind])

    def lies(self, other):
        """How this wall lies to the other one."""
        if self.crosses(other):
            return "crosses"
        if self == other:
            return "same"
        # Both do not cross, so all of the one lies on one side of the other.
        if other.beyond(self.room):
            return "behind"
        if self.beyond(other.room):
            return "ahead"
        return "apart"


def wall_at(plan, name, kind):
    """The wall of a door in the room with this name, which may have any length."""
    return Wall(room_named(plan, to_door(plan, name, kind)), kind)


def wall_text(wall):
    """A string for each wall: their order as names of rooms is the order of the walls."""
    return wall.room.name + wall.kind


def walls_on(plan, name, way, places):
    """The walls that a way from the room with this name passes at some places, ascending."""
    texts = []
    for at, kind in enumerate(way):
        if at in places:
            texts.append(to_door(plan, name, kind) + kind)
        name = behind(plan, name, kind)
    return [Wall(room_named(plan, text[:-1]), text[-1]) for text in ascending(texts)]


def walls_between(one, other):
    """All walls that part two rooms, ascending."""
    way = one.way_to(other)
    return walls_on(one.plan, one.name, way, list(range(len(way))))
