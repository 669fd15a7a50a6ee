"""How the names of the rooms of a lot go on, letter by letter from home.

What may follow a part of a name is told by what is missing of the way to the
start of the lot, and by the state of the room as to the halves that have home.
Only finitely many such pairs occur; each is a place, and they are numbered.
"""

from crosswalls.bars import bar_behind, begins_with_one, first_state, state_behind


def first_place(lot):
    """The place of home for a lot that is not empty."""
    near = [half.wall.room.name + half.wall.kind for half in lot.halves if not half.far]
    return (lot.start, first_state(lot.plan, near))


def place_behind(plan, place, kind):
    """The place behind a door, or None if from there no name leads into the lot."""
    if kind in place[1][0]:
        return None
    missing = bar_behind(plan, place[0], kind)
    if missing is None:
        return None
    state = state_behind(plan, place[1], kind)
    if begins_with_one(plan, missing, state[0]):
        return None
    return (missing, state)


def steps_of(lot):
    """For each place, by its number, the kinds that lead on from it and the numbers of the places behind.

    Home has the number 0. The result are these dicts in a list, and a list that has
    1 for the places of rooms of the lot, 0 for the others.
    """
    if lot.start is None:
        return [{}], [0]
    places = [first_place(lot)]
    numbers = {places[0]: 0}
    steps = []
    while len(steps) < len(places):
        ways_on = {}
        place = places[len(steps)]
        for kind in lot.plan.kinds:
            other = place_behind(lot.plan, place, kind)
            if other is not None:
                if other not in numbers:
                    numbers[other] = len(places)
                    places.append(other)
                ways_on[kind] = numbers[other]
        steps.append(ways_on)
    return steps, [1 if missing == "" else 0 for missing, _ in places]


def lengthened(steps, row):
    """For each place the number of rooms of the lot with one more letter behind its name.

    row has the same for one letter less.
    """
    return [sum([row[other] for other in ways_on.values()]) for ways_on in steps]
