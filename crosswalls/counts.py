"""The numbers of the rooms of a lot at each distance from a room."""

from crosswalls.bars import bars_from
from crosswalls.checks import check_number, check_same_plan
from crosswalls.errors import Endless, TooFar
from crosswalls.polynomials import cut, far_coefficient, quotient, scaled, series, shifted, sum_of, times
from crosswalls.tallies import above_of, below_of

FARTHEST = 2000


class Counts:
    """How many rooms of a lot there are at each distance from a room."""

    def __init__(self, lot, room):
        check_same_plan(lot, room)
        self.lot = lot
        self.room = room
        self.above = tuple(above_for(lot, room))
        self.below = tuple(below_of(lot.plan))

    def at(self, n, *, modulo=None):
        """The number of the rooms at distance n, or the rest of it."""
        check_distance(n, modulo)
        return far_coefficient(self.above, self.below, n, modulo)

    def within(self, n, *, modulo=None):
        """The number of the rooms at distance n or less, or the rest of it."""
        check_distance(n, modulo)
        # Dividing by 1 - x sums up a series.
        return far_coefficient(self.above, times(self.below, (1, -1)), n, modulo)

    def row(self, many):
        """The numbers at the distances 0 to many - 1."""
        check_number(0, many)
        if many > FARTHEST:
            raise TooFar(many)
        return series(self.above, self.below, many)

    def total(self):
        """The number of all rooms."""
        return sum(self._all())

    def farthest(self):
        """The greatest distance with a room, or None."""
        many = len(cut(self._all()))
        return many - 1 if many > 0 else None

    def _all(self):
        found = quotient(self.above, self.below)
        if found is None:
            raise Endless()
        return found

    def first_apart(self, other):
        """The least distance at which both have different numbers, or None."""
        own = times(self.above, other.below)
        strange = times(other.above, self.below)
        return first_place(sum_of(own, scaled(strange, -1)))

    def __eq__(self, other):
        return isinstance(other, Counts) and self.first_apart(other) is None

    @property
    def is_finite(self):
        """Whether the lot has finitely many rooms."""
        return quotient(self.above, self.below) is not None

    @property
    def begin(self):
        """The least distance with a room, or None."""
        # Both M / N and M begin at the same power, for N begins with 1.
        return first_place(self.above)


def above_for(lot, room):
    """The coefficients of M for a lot and any room."""
    if lot.start is None:
        return []
    gate = lot.gate(room)
    bars = bars_from(lot.plan, gate.name, lot.halves)
    return shifted(above_of(lot.plan, bars), lot.distance(room))


def check_distance(n, modulo):
    """Raise InvalidNumber or TooFar for what is no distance, or no number to divide by."""
    check_number(0, n)
    if modulo is not None:
        check_number(1, modulo)
    elif n > FARTHEST:
        raise TooFar(n)


def first_place(row):
    """The place of the first number that is not 0, or None."""
    for at, number in enumerate(row):
        if number != 0:
            return at
    return None
