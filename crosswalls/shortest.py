"""The shortest ways from one room to another, in the order of the alphabet."""

from crosswalls.bars import bar_at_end, bar_to, passes
from crosswalls.checks import check_same_plan, is_integer_from
from crosswalls.errors import NoSuch, NotBetween, NotShortest
from crosswalls.hulls import gathered, leads_to_one
from crosswalls.names import behind, way_between

MOST_ROOMS = 2000


class Shortest:
    """The shortest ways from one room to another one.

    The rooms on these ways are told by the names of the ways to them from the
    one room. The dicts doors, before and after have, for each of them, the kinds
    of the doors that lead on, and the numbers of ways to the room and from it on.
    """

    def __init__(self, one, other):
        check_same_plan(one, other)
        self.one = one
        self.other = other
        way = way_between(one.plan, one.name, other.name)
        self._doors = gathered(one.plan, "", [way], MOST_ROOMS, leads_to_one)
        self._before = ways_before(one.plan, self._doors)
        self._after = ways_after(one.plan, self._doors)
        self._bars = {bar_at_end(one.plan, way[:at + 1]): True for at in range(len(way))}

    def __iter__(self):
        raise TypeError("ways are not iterated over")

    def __getitem__(self, at):
        if not is_integer_from(0, at) or at >= self._after[""]:
            raise NoSuch(at)
        return way_number(self.one.plan, self._doors, self._after, at)

    def __contains__(self, x):
        return isinstance(x, str) and leads_to_end(self.one.plan, self._doors, x)

    def total(self):
        """How many ways there are."""
        return self._after[""]

    def size(self):
        """How many rooms lie on the ways."""
        return len(self._doors)

    def through(self, room):
        """How many of the ways come through a room."""
        check_same_plan(self.one, room)
        name = way_between(self.one.plan, self.one.name, room.name)
        return self._before.get(name, 0) * self._after.get(name, 0)

    def number_of(self, way):
        """The number of a way."""
        self._check_way(way)
        return ways_ahead(self.one.plan, self._doors, self._after, way)

    def forced(self, first, second):
        """Whether each way goes through the wall first ahead of the wall second."""
        bars = [self._bar(first), self._bar(second)]
        return bars[0] != bars[1] and passes(self.one.plan, bars[:1], bars[1])

    def exchanges(self, way, another):
        """The least number of exchanges of neighbours by which a way becomes another one."""
        self._check_way(way)
        self._check_way(another)
        places = {mark: at for at, mark in enumerate(marks(another))}
        return turned_pairs([places[mark] for mark in marks(way)])

    def _bar(self, wall):
        """The bar of a wall from the one room; NotBetween if it does not part the rooms."""
        check_same_plan(self.one, wall)
        bar = bar_to(self.one.plan, self.one.name, wall)
        if bar not in self._bars:
            raise NotBetween(wall)
        return bar

    def _check_way(self, value):
        if value not in self:
            raise NotShortest(value)


def ways_before(plan, doors):
    """For each room the number of ways to it; the rooms are in the order of their distances."""
    found = {"": 1}
    for name in doors:
        for kind in doors[name]:
            other = behind(plan, name, kind)
            found[other] = found.get(other, 0) + found[name]
    return found


def ways_after(plan, doors):
    """For each room the number of ways from it to the end."""
    found = {}
    for name in list(doors)[::-1]:
        # Only the end has no door that leads on.
        found[name] = sum([found[behind(plan, name, kind)] for kind in doors[name]]) if doors[name] else 1
    return found


def leads_to_end(plan, doors, way):
    """Whether a string is one of the ways."""
    name = ""
    for kind in way:
        if kind not in doors[name]:
            return False
        name = behind(plan, name, kind)
    return doors[name] == ""


def way_number(plan, doors, after, number):
    """The way with a number."""
    name = ""
    way = ""
    while doors[name]:
        kind, number = door_to(plan, doors, after, name, number)
        way = way + kind
        name = behind(plan, name, kind)
    return way


def door_to(plan, doors, after, name, number):
    """The door behind which the way of this number goes on from a room, and its number there."""
    for kind in doors[name]:
        many = after[behind(plan, name, kind)]
        if number < many:
            return kind, number
        number = number - many
    return "", number


def ways_ahead(plan, doors, after, way):
    """How many ways there are ahead of a way."""
    name = ""
    found = 0
    for kind in way:
        found = found + sum([after[behind(plan, name, other)] for other in doors[name] if other < kind])
        name = behind(plan, name, kind)
    return found


def marks(way):
    """A mark for each letter that tells its wall: walls of one kind are passed in the same order."""
    return [(kind, way[:at].count(kind)) for at, kind in enumerate(way)]


def turned_pairs(numbers):
    """How many pairs of numbers stand in falling order."""
    return sum([
        sum([1 for later in numbers[at + 1:] if later < number]) for at, number in enumerate(numbers)
    ])
