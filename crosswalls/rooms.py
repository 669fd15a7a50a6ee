"""Rooms, told by their names."""

from crosswalls.checks import check_kind, check_length, check_same_plan, check_way
from crosswalls.names import barred_after, behind, followed, leads_nearer


class Room:
    """The room to which a way leads from home."""

    def __init__(self, plan, way=""):
        check_way(plan, way)
        self.plan = plan
        self.name = followed(plan, "", way)

    def __len__(self):
        return len(self.name)

    def __iter__(self):
        raise TypeError("a room is not iterated over")

    def __getitem__(self, at):
        check_kind(self.plan, at)
        return room_named(self.plan, behind(self.plan, self.name, at))

    def __add__(self, other):
        check_way(self.plan, other)
        return room_named(self.plan, followed(self.plan, self.name, other))

    def way_to(self, other):
        """The least way from this room to the other one."""
        check_same_plan(self, other)
        return followed(self.plan, "", self.name[::-1] + other.name)

    def distance(self, other):
        """The length of a shortest way from this room to the other one."""
        return len(self.way_to(other))

    def nearer(self):
        """The kinds of the doors that lead to rooms nearer home, ascending."""
        return "".join([kind for kind in self.plan.kinds if leads_nearer(self.plan, self.name, kind)])

    def __eq__(self, other):
        return isinstance(other, Room) and self.plan == other.plan and self.name == other.name

    def __lt__(self, other):
        if not isinstance(other, Room):
            return NotImplemented
        check_same_plan(self, other)
        return self._order() < other._order()

    def __le__(self, other):
        if not isinstance(other, Room):
            return NotImplemented
        check_same_plan(self, other)
        return self._order() <= other._order()

    def __gt__(self, other):
        if not isinstance(other, Room):
            return NotImplemented
        check_same_plan(self, other)
        return self._order() > other._order()

    def __ge__(self, other):
        if not isinstance(other, Room):
            return NotImplemented
        check_same_plan(self, other)
        return self._order() >= other._order()

    def _order(self):
        return (len(self.name), self.name)


def room_named(plan, name):
    """The room with this name, which must be a name; TooLong if it has too many letters."""
    check_length(name)
    # Room(plan, name) would follow all of the name once more.
    room = Room(plan)
    room.name = name
    return room


def is_name(plan, value):
    """Whether any value is the name of a room of the plan."""
    if not isinstance(value, str) or value.lstrip(plan.kinds):
        return False
    barred = ""
    for kind in value:
        if kind in barred:
            return False
        barred = barred_after(plan, barred, kind)
    return True
