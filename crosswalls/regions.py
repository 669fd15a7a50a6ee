"""Forms of regions: paintings with no colours but "yes" and "no"."""

from crosswalls.bars import bar_behind
from crosswalls.errors import InvalidColour, NoRegion
from crosswalls.forms import form_of, graph_of_steps
from crosswalls.lots import Lot
from crosswalls.names import followed
from crosswalls.ways import parted, starts_with, without_first

MOST_LETTERS_OF_A_WORD = 12


def is_word(value):
    """Whether any value is a string of 1 to 12 letters from a to z, as colours are."""
    if not isinstance(value, str) or not 1 <= len(value) <= MOST_LETTERS_OF_A_WORD:
        return False
    return all(["a" <= letter <= "z" for letter in value])


def check_colour(value):
    """Raise InvalidColour for any value that is no colour."""
    if not is_word(value):
        raise InvalidColour(value)


def check_region(painting):
    """Raise NoRegion for a painting with another colour than "yes" and "no"."""
    for row in painting.form:
        if row[0] not in ("yes", "no"):
            raise NoRegion(row[0])


def lot_form(lot):
    """The form of the region of the rooms of a lot.

    A state is what is missing of the way to the nearest room of the lot, and the
    bars to the halves that have home; or None if no room of the lot is farther on.
    """
    plan = lot.plan
    if lot.start is None:
        start = None
    else:
        near = [half.wall.room.name + half.wall.kind for half in lot.halves if not half.far]
        start = (lot.start,) + tuple(near)
    behind_state = lambda state, at, kind: lot_state_behind(plan, state, kind)
    states, nearer, after = graph_of_steps(plan, start, behind_state)
    return form_of(["yes" if state is not None and state[0] == "" else "no" for state in states], nearer, after)


def lot_state_behind(plan, state, kind):
    """The state of lot_form behind a door that leads farther from home."""
    if state is None:
        return None
    missing = bar_behind(plan, state[0], kind)
    bars = [bar_behind(plan, bar, kind) for bar in state[1:]]
    if missing is None or "" in bars:
        return None
    return (missing,) + tuple([bar for bar in bars if bar is not None])


def half_form(half):
    """The form of the region of the rooms of a half."""
    return lot_form(Lot(half.plan, [half]))


def ball_form(room, distance):
    """The form of the region of the rooms at most so far from a room.

    A state is the distance from the room, and what of the way to it can still be
    gone with doors that lead farther from home; or None if this is not enough.
    """
    plan = room.plan
    behind_state = lambda state, at, kind: ball_state_behind(plan, distance, state, kind)
    states, nearer, after = graph_of_steps(plan, ball_state(distance, room.name, len(room.name)), behind_state)
    return form_of(["yes" if state is not None and state[1] <= distance else "no" for state in states], nearer, after)


def ball_state(distance, way, far):
    """The state of ball_form for this rest of the way, so far from the room."""
    return (way, far) if far - len(way) <= distance else None


def ball_state_behind(plan, distance, state, kind):
    """The state of ball_form behind a door that leads farther from home."""
    if state is None:
        return None
    way, far = state
    if starts_with(plan, way, kind):
        return ball_state(distance, followed(plan, "", without_first(plan, way, kind)), far - 1)
    # What does not cross this door, or comes behind such letters, cannot be gone any more.
    left = parted(plan, way[::-1], plan.across[kind])[1]
    return ball_state(distance, followed(plan, "", left[::-1]), far + 1)
