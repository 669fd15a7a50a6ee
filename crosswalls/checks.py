"""What is asked of arguments in many places."""

from crosswalls.errors import InvalidKind, InvalidNumber, InvalidWay, NoRooms, OtherPlan, TooLong

MOST_LETTERS = 2000


def check_kind(plan, value):
    """Raise InvalidKind for any value that is not a kind of the plan."""
    # The empty string and strings of several kinds may lie within plan.kinds, too.
    if not isinstance(value, str) or len(value) != 1 or value not in plan.kinds:
        raise InvalidKind(value)


def check_way(plan, value):
    """Raise InvalidWay or TooLong for any value that is not a way of the plan."""
    if not isinstance(value, str):
        raise InvalidWay(0)
    rest = value.lstrip(plan.kinds)
    if rest:
        raise InvalidWay(len(value) - len(rest))
    check_length(value)


def check_length(letters):
    """Raise TooLong for a way or a name with more letters than it may have."""
    if len(letters) > MOST_LETTERS:
        raise TooLong(len(letters))


def check_same_plan(one, other):
    """Raise OtherPlan for two objects of unequal plans."""
    if one.plan != other.plan:
        raise OtherPlan()


def check_rooms(rooms):
    """Raise NoRooms for an empty list, OtherPlan for rooms of unequal plans."""
    if len(rooms) == 0:
        raise NoRooms()
    for room in rooms:
        check_same_plan(rooms[0], room)


def is_integer(value):
    """Whether any value is an integer; True and False are none."""
    return isinstance(value, int) and not isinstance(value, bool)


def is_integer_from(least, value):
    """Whether any value is an integer that is not below the least one."""
    return is_integer(value) and value >= least


def check_number(least, value):
    """Raise InvalidNumber for any value that is no integer from the least one on."""
    if not is_integer_from(least, value):
        raise InvalidNumber(value)
