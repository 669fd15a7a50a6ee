"""How far a motion leads rooms, and when it leads them where, for all its powers at once."""

from math import lcm

from crosswalls.bars import layers
from crosswalls.checks import check_same_plan, is_integer, is_integer_from
from crosswalls.courses import Course, grows_ahead, grows_behind, least_period, same_values
from crosswalls.errors import InvalidTimes
from crosswalls.lots import Half
from crosswalls.renames import renamed
from crosswalls.sides import Sides
from crosswalls.spans import (
    first_from, full_mask, joined_starts, last_to, many_between, mask_of, masks_between, mixed, span_at, told_by,
    without_repeats,
)
from crosswalls.tallies import FEW_ROOMS, MANY_HALVES
from crosswalls.turns import turn_of
from crosswalls.ways import to_door


class Gait:
    """The distances between a room start and the images of a room goal, for all powers of a motion."""

    def __init__(self, motion, start, goal):
        check_same_plan(motion, start)
        check_same_plan(motion, goal)
        self.motion = motion
        self.start = start
        self.goal = goal
        self._course = Course(turn_of(motion), start.name, goal.name)
        self._period = least_period(self._course)

    def __call__(self, n):
        return self._course.at(n)

    @property
    def period(self):
        """The least number of powers after which all distances come again, but for the speed."""
        return self._period

    @property
    def ahead(self):
        """The first power from which on the period holds, or None if the motion stands."""
        if self._course.growth == 0:
            return None
        number = self._course.last()
        while grows_ahead(self._course, number - 1, self._period):
            number -= 1
        return number

    @property
    def behind(self):
        """The last power up to which the period holds, or None if the motion stands."""
        if self._course.growth == 0:
            return None
        number = self._course.first
        while grows_behind(self._course, number + 1, self._period):
            number = number + 1
        return number

    def least(self):
        """The least distance, and the power nearest to 0 that has it."""
        row = self._course.table
        value = min([int(distance) for distance in row])
        numbers = [self._course.first + at for at, distance in enumerate(row) if distance == value]
        near = min([int(abs(number)) for number in numbers])
        return value, near if near in numbers else -near

    def within(self, distance):
        """The When of all powers with this distance or a lesser one."""
        return times_within(self._course, distance)

    def __eq__(self, other):
        return isinstance(other, Gait) and same_values(self._course, other._course)


class When:
    """A set of ints that comes again by a period from some int on, and up to some int.

    cycle, starts and masks tell it as the module spans says.
    """

    def __init__(self, cycle, starts, masks):
        self.cycle, self.starts, self.masks = without_repeats(cycle, starts, masks)

    @staticmethod
    def single(n):
        """The int n alone."""
        return When(1, [n, n + 1], [0, 1, 0])

    @staticmethod
    def since(n):
        """All ints from n on."""
        return When(1, [n], [0, 1])

    @staticmethod
    def rests(period, rests):
        """All ints whose rest by the period is in a list."""
        if not is_integer_from(1, period):
            raise InvalidTimes(period)
        for rest in rests:
            if not is_integer_from(0, rest) or rest >= period:
                raise InvalidTimes(rest)
        return When(period, [], [mask_of(period, rests)])

    def __contains__(self, x):
        if not is_integer(x):
            return False
        return self.masks[span_at(self.starts, x)] >> x % self.cycle & 1 == 1

    def __and__(self, other):
        if not isinstance(other, When):
            return NotImplemented
        return joint(self, other, (True, False, False))

    def __or__(self, other):
        if not isinstance(other, When):
            return NotImplemented
        return joint(self, other, (True, True, True))

    def __sub__(self, other):
        if not isinstance(other, When):
            return NotImplemented
        return joint(self, other, (False, True, False))

    def __xor__(self, other):
        if not isinstance(other, When):
            return NotImplemented
        return joint(self, other, (False, True, True))

    def __invert__(self):
        return When(self.cycle, self.starts, [full_mask(self.cycle) ^ mask for mask in self.masks])

    def __le__(self, other):
        if not isinstance(other, When):
            return NotImplemented
        return not has_member(joint(self, other, (False, True, False)))

    def __eq__(self, other):
        return isinstance(other, When) and not has_member(joint(self, other, (False, True, True)))

    def __bool__(self):
        return bool(has_member(self))

    @property
    def is_finite(self):
        """Whether there are finitely many members."""
        return self.masks[0] == 0 and self.masks[-1] == 0

    def earliest(self, n):
        """The least member that is not below n, or None."""
        for place in range(span_at(self.starts, n), len(self.masks)):
            low = n if place == 0 else max(int(n), self.starts[place - 1])
            found = first_from(self.masks[place], self.cycle, low)
            if found is not None and (place == len(self.starts) or found < self.starts[place]):
                return found
        return None

    def latest(self, n):
        """The greatest member that is not above n, or None."""
        for place in range(span_at(self.starts, n), -1, -1):
            high = n if place == len(self.starts) else min(int(n), self.starts[place] - 1)
            found = last_to(self.masks[place], self.cycle, high)
            if found is not None and (place == 0 or found >= self.starts[place - 1]):
                return found
        return None

    def count(self, start, stop):
        """How many members are not below start, and below stop."""
        found = 0
        for place, mask in enumerate(self.masks):
            low = start if place == 0 else max(int(start), self.starts[place - 1])
            high = stop if place == len(self.starts) else min(int(stop), self.starts[place])
            found = found + many_between(mask, self.cycle, low, high)
        return found


def joint(one, other, kept):
    """The ints that are in both, in the one alone and in the other alone, as far as kept tells to take them."""
    cycle = lcm(one.cycle, other.cycle)
    starts = joined_starts(one.starts, other.starts)
    own = masks_between((one.cycle, one.starts, one.masks), starts, cycle)
    strange = masks_between((other.cycle, other.starts, other.masks), starts, cycle)
    return When(cycle, starts, [mixed(mask, other_mask, kept) for mask, other_mask in zip(own, strange)])


def has_member(times):
    """Whether a When has a member."""
    if times.masks[0] != 0 or times.masks[-1] != 0:
        return True
    return len(times.starts) > 0 and times.earliest(times.starts[0]) is not None


def when(motion, room, lot):
    """The When of all powers of the motion that lead the room into a Lot or a Half."""
    check_same_plan(motion, room)
    check_same_plan(motion, lot)
    turn = turn_of(motion)
    if isinstance(lot, Half):
        return times_in_half(turn, room.name, lot)
    if lot.start is None:
        return When(1, [], [0])
    if len(lot.halves) > MANY_HALVES:
        rooms = layers(lot.plan, lot.start, lot.bars, FEW_ROOMS)
        if rooms is not None:
            return times_among(turn, room.name, lot.start, rooms)
    found = When(1, [], [1])
    for half in lot.halves:
        found = found & times_in_half(turn, room.name, half)
    return found


def times_in_half(turn, name, half):
    """The When of all powers that lead the room with this name into a half."""
    sides = Sides(turn, half.wall, name)
    told = told_by(sides.lowest(), [beyond == half.far for beyond in sides.beyond_flags()], 2 * turn.many)
    return When(*told)


def times_among(turn, name, start, rooms):
    """The When of all powers that lead the room with this name to one of some rooms.

    The rooms stand in lists by their distance from the room start, as layers tells them.
    """
    names = {other: True for layer in rooms for other, _ in layer}
    if turn.stride == "":
        cycle = 2 * turn.many
        return When(cycle, [], [mask_of(cycle, [at for at in range(cycle) if turn.image(at, name) in names])])
    near = times_within(Course(turn, start, name), len(rooms) - 1)
    first = near.starts[0] - 1 if len(near.starts) > 0 else 0
    last = near.starts[-1] if len(near.starts) > 0 else 0
    flags = [at in near and turn.image(at, name) in names for at in range(first, last + 1)]
    told = told_by(first, flags, 1)
    return When(*told)


def times_within(course, distance):
    """The When of all powers for which the distance is not greater than this one."""
    told = told_by(course.first, [near <= distance for near in course.table], course.cycle)
    found = When(*told)
    if course.growth == 0:
        return found
    # Beyond the table the distances grow, so that those of each rest are within up to some power.
    found = found & When(1, [course.first, course.last() + 1], [0, 1, 0])
    for at in range(course.cycle):
        for number, step in ((course.last() - at, course.cycle), (course.first + at, -course.cycle)):
            laps = (distance - course.at(number)) // course.growth
            if laps > 0:
                found = found | stepped(number, step, laps)
    return found


def stepped(number, step, laps):
    """The When of a number and of those to which 1 to laps steps lead from it."""
    end = number + step * laps
    cycle = abs(step)
    return When(cycle, [min(int(number), end), max(int(number), end) + 1], [0, mask_of(cycle, [number]), 0])


def brings(motion, first, second):
    """The When of all powers of the motion that lead the first room to the second one."""
    check_same_plan(motion, first)
    check_same_plan(motion, second)
    return times_within(Course(turn_of(motion), second.name, first.name), 0)


def fate(motion, wall):
    """What the motion does to a wall in the long run: it is kept, passed, or stays beside it."""
    check_same_plan(motion, wall)
    turn = turn_of(motion)
    for many in range(1, 2 * turn.many + 1):
        if keeps(turn, many, wall):
            return "kept", many
    sides = Sides(turn, wall, "")
    late = sides.is_beyond(sides.highest())
    return "passed" if late != sides.is_beyond(sides.lowest()) else "beside", Half(wall, late)


def keeps(turn, many, wall):
    """Whether a power leads a wall to itself."""
    kind = renamed(turn.plan, turn.renaming_of(many), wall.kind)
    return kind == wall.kind and to_door(turn.plan, turn.image(many, wall.room.name), kind) == wall.room.name
