"""Lots near home for the tests, with their rooms found by the plain walk."""

from crosswalls.lots import Lot


def some_halves(dice, near, distance, most):
    """Halves, each told as (wall, far), so few and near that a room in all of them would be near home."""
    walls = [wall for wall in near.every_wall if len(wall[0]) <= distance]
    many = dice.randrange(most + 1) if walls else 0
    found = []
    while len(found) < many:
        found.append((dice.choice(walls), dice.random() < 0.4))
        if sum(len(wall[0]) + 1 for wall, _ in found) > near.far:
            return found[:-1]
    return found


def lot_of(near, halves):
    return Lot(near.plan, [near.half(wall, far) for wall, far in halves])


def some_lots(dice, near, distance, most, times):
    """Lots, each with the halves that it is made of and the names of its rooms near home."""
    for _ in range(times):
        halves = some_halves(dice, near, distance, most)
        yield lot_of(near, halves), halves, near.having(halves)


def rooms_at(names, distance):
    return [name for name in names if len(name) == distance]


def is_surely_finite(near, names):
    """Whether a lot ends within the walk: at each distance from its first room to its last one it has a room."""
    return not names or not rooms_at(names, near.far)
