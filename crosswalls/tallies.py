"""The two polynomials of which the numbers of rooms at each distance are the quotient."""

from crosswalls.bars import layers
from crosswalls.polynomials import cut, grown, scaled, shifted, sum_of, times
from crosswalls.ways import joined

# A lot with more halves than this is mostly that around some rooms: its few rooms
# are counted more quickly than the sets of its walls that cross.
MANY_HALVES = 12
FEW_ROOMS = 2000


def crossing_sizes(plan):
    """How many sets of kinds that cross pairwise have 0, 1, 2 .. kinds."""
    found = [""]
    for kind in plan.kinds:
        found = found + [chosen + kind for chosen in found if not chosen.strip(plan.across[kind])]
    sizes = [len(chosen) for chosen in found]
    return [sizes.count(size) for size in range(len(plan.kinds) + 1) if size in sizes]


def below_of(plan):
    """The coefficients of N."""
    sizes = crossing_sizes(plan)
    found = []
    for size, many in enumerate(sizes):
        sign = 1 if size & 1 == 0 else -1
        row = shifted(grown(len(sizes) - 1 - size), size)
        found = sum_of(found, scaled(row, sign * many))
    return cut(found)


def above_of(plan, bars):
    """The coefficients of M for a lot and the room of the lot from which the bars lead."""
    if len(bars) > MANY_HALVES:
        found = layers(plan, "", bars, FEW_ROOMS)
        if found is not None:
            return cut(times([len(layer) for layer in found], below_of(plan)))
    return cut(above_by_crossings(plan, bars))


def above_by_crossings(plan, bars):
    """The coefficients of M, by the sets of walls that cross pairwise."""
    most = len(crossing_sizes(plan)) - 1
    factors = [grown(most - size) for size in range(most + 1)]
    found = []
    for size, far in crossings(plan, bars):
        sign = 1 if size & 1 == 0 else -1
        found = sum_of(found, scaled(shifted(factors[size], far), sign))
    return found


def crossings(plan, bars):
    """For each set of bars whose walls cross pairwise, their number and how far the rooms beyond all are.

    No half has the other one of another half, so walls cross exactly if a way can pass both.
    """
    found = [(0, "")]
    for bar in bars:
        wider = []
        for size, way in found:
            both = joined(plan, way, bar)
            if both is not None:
                wider.append((size + 1, both))
        found = found + wider
    return [(size, len(way)) for size, way in found]
