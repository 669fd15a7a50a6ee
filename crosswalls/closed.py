"""Closed floors: finitely many places over which all rooms lie."""

from crosswalls.checks import check_rooms, check_same_plan, check_way, is_integer
from crosswalls.errors import NoPlace, NotHull
from crosswalls.hulls import leads_to_one, ways_from_behind, ways_to
from crosswalls.middles import gate_among
from crosswalls.names import ascending, behind, followed
from crosswalls.renames import check_renaming
from crosswalls.rooms import Room, room_named
from crosswalls.tables import check_exchanged, check_leading_back, check_shape, found_order, numbered


class Closed:
    """A closed floor: places, and where the door of each kind leads from each of them."""

    def __init__(self, plan, tables):
        check_shape(plan, tables, None)
        check_leading_back(plan, tables)
        check_exchanged(plan, tables)
        order = found_order(tables, 0)
        self.plan = plan
        self.tables = numbered(tables, order)
        self._places = list(range(len(order)))

    def __len__(self):
        return len(self._places)

    def __eq__(self, other):
        return isinstance(other, Closed) and self.plan == other.plan and self.tables == other.tables

    def at(self, room):
        """The place over which a room lies."""
        check_same_plan(self, room)
        return place_at_end(self, 0, room.name)

    def follow(self, place, way):
        """The place to which a way leads from a place."""
        check_place(self, place)
        check_way(self.plan, way)
        return place_at_end(self, place, way)

    def based(self, place):
        """The closed floor with the same doors, and this place as the first one."""
        check_place(self, place)
        return closed_from(self.plan, self.tables, place)

    def renamed(self, renaming):
        """The closed floor in which the door of each kind's image leads where the door of the kind led."""
        check_renaming(self.plan, renaming)
        return closed_from(self.plan, [self.tables[renaming.index(kind)] for kind in self.plan.kinds], 0)

    def alike(self):
        """The places from which all doors lead as they do from the first place, ascending."""
        return tuple([place for place in self._places if closed_from(self.plan, self.tables, place) == self])

    def __le__(self, other):
        if not isinstance(other, Closed):
            return NotImplemented
        check_same_plan(self, other)
        return all([strange == 0 for own, strange in places_of_both(self, other) if own == 0])

    def __and__(self, other):
        if not isinstance(other, Closed):
            return NotImplemented
        check_same_plan(self, other)
        pairs = places_of_both(self, other)
        numbers = {pair: number for number, pair in enumerate(pairs)}
        tables = [
            [numbers[own[one], strange[two]] for one, two in pairs]
            for own, strange in zip(self.tables, other.tables)
        ]
        return closed_from(self.plan, tables, 0)

    def __or__(self, other):
        if not isinstance(other, Closed):
            return NotImplemented
        check_same_plan(self, other)
        pairs = places_of_both(self, other)
        groups = {pair: number for pair, number in zip(pairs, chained(pairs))}
        tables = [
            [groups[own[one], strange[two]] for one, two in pairs]
            for own, strange in zip(self.tables, other.tables)
        ]
        return closed_from(self.plan, tables, 0)

    def ways(self):
        """The names of rooms over the first place: ways that follow one another lead to all such rooms."""
        first = first_ways(self)
        found = {}
        for place in self._places:
            for kind, table in zip(self.plan.kinds, self.tables):
                name = followed(self.plan, "", first[place] + kind + first[table[place]][::-1])
                if name:
                    found[name] = True
        return tuple(ascending(found))

    @staticmethod
    def folded(rooms):
        """The closed floor whose places are the rooms of a hull, with mirrors all around."""
        check_rooms(rooms)
        plan = rooms[0].plan
        doors = doors_within(plan, rooms)
        names = ascending(doors)
        numbers = {name: number for number, name in enumerate(names)}
        tables = [
            [numbers[behind(plan, name, kind)] if kind in doors[name] else numbers[name] for name in names]
            for kind in plan.kinds
        ]
        return closed_from(plan, tables, 0)


def closed_from(plan, tables, first):
    """The closed floor with these doors, which are known to be right, from this place on."""
    order = found_order(tables, first)
    closed = Closed(plan, [[0] for _ in plan.kinds])
    closed.tables = numbered(tables, order)
    closed._places = list(range(len(order)))
    return closed


def check_place(closed, value):
    """Raise NoPlace for any value that is no place of the closed floor."""
    if not is_integer(value) or not 0 <= value < len(closed):
        raise NoPlace(value)


def place_at_end(closed, place, way):
    """The place to which a way leads from a place."""
    for kind in way:
        place = closed.tables[closed.plan.kinds.index(kind)][place]
    return place


def places_of_both(one, other):
    """The pairs of places, one of each closed floor, over both of which rooms lie, as they are found."""
    found = [(0, 0)]
    seen = {(0, 0): True}
    at = 0
    while at < len(found):
        own, strange = found[at]
        at += 1
        for table, other_table in zip(one.tables, other.tables):
            pair = (table[own], other_table[strange])
            if pair not in seen:
                seen[pair] = True
                found.append(pair)
    return found


def chained(pairs):
    """For each pair the least number of those to which chains of pairs lead that have a place in common."""
    numbers = list(range(len(pairs)))
    before = []
    while numbers != before:
        before = numbers
        for side in (0, 1):
            least = {}
            for pair, number in zip(pairs, numbers):
                least[pair[side]] = min(int(number), least.get(pair[side], number))
            numbers = [least[pair[side]] for pair in pairs]
    return numbers


def first_ways(closed):
    """For each place the first way to it from the first place."""
    found = {0: ""}
    for place in range(len(closed)):
        for kind, table in zip(closed.plan.kinds, closed.tables):
            if table[place] not in found:
                found[table[place]] = found[place] + kind
    return found


def doors_within(plan, rooms):
    """For the name of each room the kinds of its doors that lead to one of the rooms.

    NotHull for the first room of their hull that is missing among them.
    """
    given = {room.name: True for room in rooms}
    start = gate_among(Room(plan), rooms)
    found = {}
    layer = {start.name: ways_to(start, rooms)}
    # Each layer has the rooms of the hull at one distance from home.
    while layer:
        for name in ascending(layer):
            if name not in given:
                raise NotHull(room_named(plan, name))
        behind_them = {}
        for name in layer:
            found[name] = "".join([kind for kind in plan.kinds if leads_to_one(plan, layer[name], kind)])
            for kind in found[name]:
                other = behind(plan, name, kind)
                if len(other) > len(name) and other not in behind_them:
                    behind_them[other] = ways_from_behind(plan, layer[name], kind)
        layer = behind_them
    return found
