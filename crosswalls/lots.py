"""Halves of the floor, and lots: the rooms that are in all of some halves."""

from crosswalls.bars import (
    bar_to, bars_from, is_in, layers, least_halves, passes, places_beyond, start_within, without,
)
from crosswalls.checks import check_rooms, check_same_plan
from crosswalls.errors import EmptyLot, Endless, OtherPlan, TooMany
from crosswalls.hulls import hull_doors
from crosswalls.names import ascending, followed, leads_nearer, way_between
from crosswalls.plans import Plan
from crosswalls.polynomials import quotient
from crosswalls.rooms import Room, room_named
from crosswalls.tallies import FEW_ROOMS, above_of, below_of
from crosswalls.walls import Wall, wall_at, wall_text, walls_on
from crosswalls.ways import all_cross, to_door


class Half:
    """The near half of a wall, which has home, or the far one."""

    def __init__(self, wall, far=False):
        self.wall = wall
        self.far = far
        self.plan = wall.plan

    @staticmethod
    def beside(room, kind):
        """The half that has the room and ends at the wall of its door of this kind."""
        wall = Wall(room, kind)
        return Half(wall, wall.beyond(room))

    def __contains__(self, x):
        if not isinstance(x, Room) or x.plan != self.plan:
            return False
        return is_in(self.plan, x.name, self)

    def __invert__(self):
        return Half(self.wall, not self.far)

    def __eq__(self, other):
        return isinstance(other, Half) and self.far == other.far and self.wall == other.wall

    def __le__(self, other):
        if not isinstance(other, Half):
            return NotImplemented
        return not self.meets(Half(other.wall, not other.far))

    def meets(self, other):
        """Whether the two halves have a room in common."""
        check_same_plan(self, other)
        how = self.wall.lies(other.wall)
        if how == "same":
            return self.far == other.far
        # The one pair of halves that does not meet, if the walls do not cross.
        if how == "apart":
            return not (self.far and other.far)
        if how == "behind":
            return other.far or not self.far
        if how == "ahead":
            return self.far or not other.far
        return True


class Lot:
    """The rooms that are in all of some halves.

    Beside the attributes of the interface a lot has start, the name of its
    nearest room to home, or None for the empty lot; and bars, a dict that has
    each half of the least list by its bar from this room.
    """

    def __init__(self, plan, halves=()):
        for half in halves:
            if half.plan != plan:
                raise OtherPlan()
        self.plan = plan
        start = start_within(plan, halves)
        if all([is_in(plan, start, half) for half in halves]):
            self.start = start
            self.bars = least_halves(plan, bars_from(plan, start, halves), halves)
        else:
            self.start = None
            self.bars = {}
        self.halves = ordered_halves(self.bars)

    @staticmethod
    def around(rooms):
        """The least lot that has these rooms."""
        check_rooms(rooms)
        plan = rooms[0].plan
        doors = hull_doors(rooms)
        lot = Lot(plan)
        lot.start = ascending(doors)[0]
        lot.bars = halves_of_hull(plan, lot.start, doors)
        lot.halves = ordered_halves(lot.bars)
        return lot

    def __bool__(self):
        return self.start is not None

    def __contains__(self, x):
        if not isinstance(x, Room) or x.plan != self.plan or self.start is None:
            return False
        return not passes(self.plan, self.bars, way_between(self.plan, self.start, x.name))

    def __and__(self, other):
        if not isinstance(other, Lot):
            return NotImplemented
        check_same_plan(self, other)
        # The halves of the empty lot do not tell it.
        if self.start is None:
            return self
        if other.start is None:
            return other
        return Lot(self.plan, self.halves + other.halves)

    def __le__(self, other):
        if not isinstance(other, Lot):
            return NotImplemented
        check_same_plan(self, other)
        if self.start is None:
            return True
        if other.start is None:
            return False
        return all([lies_in(self, half) for half in other.halves])

    def __eq__(self, other):
        if not isinstance(other, Lot) or self.plan != other.plan:
            return False
        return self.start == other.start and self.halves == other.halves

    def gate(self, room):
        """The room of the lot that is nearest to a room."""
        check_not_empty(self, room)
        way, places = way_and_places(self, room)
        return room_named(self.plan, followed(self.plan, self.start, without(way, places)))

    def distance(self, room):
        """The distance of a room and its gate."""
        check_not_empty(self, room)
        return len(way_and_places(self, room)[1])

    def parting(self, room):
        """The walls that have the room on one side and the whole lot on the other, ascending."""
        check_not_empty(self, room)
        way, places = way_and_places(self, room)
        return walls_on(self.plan, self.start, way, places)

    def facing(self, other):
        """How two lots are nearest to one another."""
        check_not_empty(self, other)
        check_not_empty(other, self)
        far = other.gate(room_named(self.plan, self.start))
        near = self.gate(far)
        way = near.way_to(far)
        kinds = "".join([kind for kind in self.plan.kinds if all_cross(self.plan, kind, way)])
        bars = bars_from(self.plan, near.name, self.halves) + bars_from(self.plan, far.name, other.halves)
        return Facing(near, far, way, kinds, lot_within(self.plan, kinds, bars))

    def rooms(self, *, most=2000):
        """All rooms of the lot, ascending."""
        if self.start is None:
            return []
        found = layers(self.plan, self.start, self.bars, FEW_ROOMS)
        if found is None:
            # So many rooms are counted before they are listed: there may be far more of them.
            check_many(self, most)
            found = layers(self.plan, self.start, self.bars, most)
        names = [name for layer in found for name, _ in layer]
        if len(names) > most:
            raise TooMany(most)
        return [room_named(self.plan, name) for name in ascending(names)]


class Facing:
    """Two nearest rooms of two lots, the way between them, and where else there are such."""

    def __init__(self, one, other, way, kinds, lot):
        self.one = one
        self.other = other
        self.way = way
        self.kinds = kinds
        self.lot = lot


def check_not_empty(lot, other):
    """Raise OtherPlan for an object of another plan, EmptyLot for the empty lot."""
    check_same_plan(lot, other)
    if lot.start is None:
        raise EmptyLot()


def check_many(lot, most):
    """Raise Endless or TooMany for a lot that has more than most rooms."""
    numbers = quotient(above_of(lot.plan, lot.bars), below_of(lot.plan))
    if numbers is None:
        raise Endless()
    if sum(numbers) > most:
        raise TooMany(most)


def ordered_halves(by_bar):
    """The halves in a dict, ascending by their walls."""
    by_text = {wall_text(by_bar[bar].wall): by_bar[bar] for bar in by_bar}
    return tuple([by_text[text] for text in ascending(by_text)])


def halves_of_hull(plan, start, doors):
    """For the rooms of a hull the halves that end at the walls of their doors that lead out.

    They are the least list, in a dict by their bars from the room with the name start.
    """
    found = {}
    for name in doors:
        way = way_between(plan, start, name)
        for kind in plan.kinds:
            bar = to_door(plan, way, kind) + kind
            if kind not in doors[name] and bar not in found:
                found[bar] = Half(wall_at(plan, name, kind), leads_nearer(plan, name, kind))
    return found


def lies_in(lot, half):
    """Whether each room of a lot that is not empty is in a half."""
    if not is_in(lot.plan, lot.start, half):
        return False
    return passes(lot.plan, lot.bars, bar_to(lot.plan, lot.start, half.wall))


def way_and_places(lot, room):
    """The way from the start of a lot to a room, and the places of its letters that lead out of the lot."""
    way = way_between(lot.plan, lot.start, room.name)
    return way, places_beyond(lot.plan, lot.bars, way)


def lot_within(plan, kinds, bars):
    """The lot of all names in some kinds that can begin with none of the bars, in the plan of these kinds."""
    part = Plan(kinds, [pair for pair in plan.pairs if not pair.strip(kinds)])
    near = [bar for bar in bars if not bar.strip(kinds)]
    return Lot(part, [Half(Wall(Room(part, bar[:-1]), bar[-1])) for bar in near])
