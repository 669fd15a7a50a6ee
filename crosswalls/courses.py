"""Courses: how far the images of a room are from another one, for all powers of a motion."""

from math import lcm

from crosswalls.names import followed
from crosswalls.renames import renamed, turned_back
from crosswalls.turns import image_by


class Course:
    """The distances between a room start and the images of a room goal.

    table has them for the powers from the number first on. Beyond both its ends
    the distance grows by `growth` with each `cycle` of powers.
    """

    def __init__(self, turn, start, goal):
        plan = turn.plan
        self.cycle = 2 * turn.many
        self.growth = 2 * len(turn.stride)
        back = turned_back(plan, turn.renaming)
        home_back = renamed(plan, back, turn.home[::-1])
        many = turn.many * (steady_from(turn, start, goal, turn.stride) + 3)
        many_back = turn.many * (steady_from(turn, start, goal, turn.stride[::-1]) + 3)
        row_back = distances(plan, home_back, back, start, goal, many_back)
        self.table = row_back[:0:-1] + distances(plan, turn.home, turn.renaming, start, goal, many)
        self.first = 1 - many_back

    def last(self):
        """The number of the last power in the table."""
        return self.first + len(self.table) - 1

    def at(self, number):
        """The distance for any power."""
        laps = 0
        last = self.last()
        if number > last:
            laps = (number - last + self.cycle - 1) // self.cycle
            number = number - laps * self.cycle
        elif number < self.first:
            laps = (self.first - number + self.cycle - 1) // self.cycle
            number = number + laps * self.cycle
        return self.table[number - self.first] + laps * self.growth


def steady_from(turn, start, goal, stride):
    """After how many shifts by a stride each further one makes the distances longer by all of it.

    Only those letters of the strides are lost that are taken out by the ways to
    the first room and to the last one; no letter is without the same one of the
    stride before.
    """
    plan = turn.plan
    fronts = [followed(plan, "", start[::-1] + turn.room + still) for still in ("", turn.still)]
    images = [image_by(plan, turn.home, turn.renaming, many, goal) for many in range(turn.many)]
    ends = [followed(plan, "", image[::-1] + turn.room) for image in images]
    most = max([int(strides_met(plan, front, stride)) for front in fronts])
    return most + max([int(strides_met(plan, end, stride[::-1])) for end in ends]) + 1


def strides_met(plan, name, stride):
    """How many strides can follow a name until one follows without losing a letter."""
    many = 0
    other = followed(plan, name, stride)
    while len(other) < len(name) + len(stride):
        name = other
        other = followed(plan, name, stride)
        many += 1
    return many


def distances(plan, home, renaming, start, goal, many):
    """The distances between start and the images of goal, for the powers 0 to many - 1."""
    found = []
    name = followed(plan, "", start[::-1])
    for _ in range(many):
        found.append(len(followed(plan, name, goal)))
        name = followed(plan, name, home)
        home = renamed(plan, renaming, home)
        goal = renamed(plan, renaming, goal)
    return found


def grows_ahead(course, number, period):
    """Whether the distance grows as fast as in the long run from a power to that a period ahead."""
    return course.at(number + period) == course.at(number) + course.growth // course.cycle * period


def grows_behind(course, number, period):
    """Whether the distance grows as fast as in the long run from a power to that a period behind."""
    return course.at(number - period) == course.at(number) + course.growth // course.cycle * period


def least_period(course):
    """The least number of powers after which the distances come again at both ends, but for their growth."""
    for period in range(1, course.cycle):
        if all([
            grows_ahead(course, course.last() - at, period) and grows_behind(course, course.first + at, period)
            for at in range(course.cycle)
        ]):
            return period
    return course.cycle


def same_values(one, other):
    """Whether two courses have the same distances for all powers."""
    cycle = lcm(one.cycle, other.cycle)
    if one.growth * (cycle // one.cycle) != other.growth * (cycle // other.cycle):
        return False
    first = min(int(one.first), other.first) - cycle
    last = max(int(one.last()), other.last()) + cycle
    return all([one.at(number) == other.at(number) for number in range(first, last + 1)])
