"""The rooms of a lot in ascending order."""

from crosswalls.checks import MOST_LETTERS, check_number, check_same_plan, is_integer_from
from crosswalls.counts import above_for
from crosswalls.errors import NoSuch, TooLong, TooMany
from crosswalls.polynomials import far_coefficient, quotient, times
from crosswalls.rooms import Room, room_named
from crosswalls.tallies import below_of
from crosswalls.tracks import lengthened, steps_of

MOST_ROOMS = 2000
USUAL_DISTANCE = 30


class Row:
    """The rooms of a lot in ascending order, finitely or endlessly many.

    The row keeps how many rooms of the lot there are behind each part of a
    name: rows[many][place] counts those with so many letters behind a part
    that leads to this place, as tracks tell them. Rooms that are farther off
    than these are found by the quotient that counts rooms at all distances.
    """

    def __init__(self, lot):
        self.lot = lot
        steps, row = steps_of(lot)
        rows = [row]
        for _ in range(USUAL_DISTANCE):
            rows.append(lengthened(steps, rows[-1]))
        self._steps = steps
        self._rows = rows
        self._above = above_for(lot, Room(lot.plan))
        self._below = below_of(lot.plan)

    def __iter__(self):
        raise TypeError("a row is not iterated over")

    def __getitem__(self, at):
        if not is_integer_from(0, at):
            raise NoSuch(at)
        distance = self._distance(at)
        if distance > MOST_LETTERS:
            raise TooLong(distance)
        return self._room(self._rows_to(distance), at)

    def __contains__(self, x):
        return x in self.lot

    def part(self, start, stop):
        """The rooms with the numbers from start to stop - 1."""
        check_number(0, start)
        check_number(0, stop)
        if stop - start > MOST_ROOMS:
            raise TooMany(MOST_ROOMS)
        if start >= stop:
            return []
        distance = self._distance(stop - 1)
        if distance > MOST_LETTERS:
            first = self._distance(start)
            raise TooLong(first if first > MOST_LETTERS else MOST_LETTERS + 1)
        rows = self._rows_to(distance)
        return [self._room(rows, number) for number in range(start, stop)]

    def number_of(self, room):
        """How many rooms of the lot are less than a room."""
        check_same_plan(self.lot, room)
        rows = self._rows_to(len(room))
        found = sum([rows[many][0] for many in range(len(room))])
        place = 0
        for at, kind in enumerate(room.name):
            row = rows[len(room) - at - 1]
            ways_on = self._steps[place]
            found = found + sum([row[ways_on[other]] for other in ways_on if other < kind])
            if kind not in ways_on:
                return found
            place = ways_on[kind]
        return found

    def _rows_to(self, many):
        rows = list(self._rows)
        while len(rows) <= many:
            rows.append(lengthened(self._steps, rows[-1]))
        return rows

    def _distance(self, number):
        """The distance from home of the room with this number; NoSuch if there is none."""
        found = 0
        for distance, row in enumerate(self._rows):
            found = found + row[0]
            if number < found:
                return distance
        numbers = quotient(self._above, self._below)
        if numbers is not None and sum(numbers) <= number:
            raise NoSuch(number)
        return least_distance(self._above, self._below, number)

    def _room(self, rows, number):
        """The room with this number, which the rows must reach."""
        distance = 0
        while rows[distance][0] <= number:
            number = number - rows[distance][0]
            distance += 1
        name = ""
        place = 0
        for many in range(distance - 1, -1, -1):
            kind, number = step_to(self._steps[place], rows[many], number)
            name = name + kind
            place = self._steps[place][kind]
        return room_named(self.lot.plan, name)


def least_distance(above, below, number):
    """The least distance up to which there are more than so many rooms; there must be so many."""
    # Dividing by 1 - x sums up a series.
    below = times(below, (1, -1))
    high = 1
    while far_coefficient(above, below, high, None) <= number:
        high = 2 * high
    low = -1
    while high - low > 1:
        between = (low + high) // 2
        if far_coefficient(above, below, between, None) <= number:
            low = between
        else:
            high = between
    return high


def step_to(ways_on, row, number):
    """The first kind with which more than so many rooms are passed, and how many are left."""
    for kind in ways_on:
        many = row[ways_on[kind]]
        if number < many:
            return kind, number
        number = number - many
    return "", number
