"""What is asked of arguments in many places."""

from crosswalls.errors import InvalidKind, InvalidWay, OtherPlan, TooLong

MOST_LETTERS = 2000


def check_kind(plan, value):
    """Raise InvalidKind for any value that is not a kind of the plan."""
    # The empty string and strings of several kinds may lie within plan.kinds, too.
    if not isinstance(value, str) or len(value) != 1 or value not in plan.kinds:
        raise InvalidKind(value)


def check_way(plan, value):
    """Raise InvalidWay or TooLong for any value that is not a way of the plan."""
    if not isinstance(value, str):
        raise InvalidWay(0)
    rest = value.lstrip(plan.kinds)
    if rest:
        raise InvalidWay(len(value) - len(rest))
    check_length(value)


def check_length(letters):
    """Raise TooLong for a way or a name with more letters than it may have."""
    if len(letters) > MOST_LETTERS:
        raise TooLong(len(letters))


def check_same_plan(one, other):
    """Raise OtherPlan for two objects of unequal plans."""
    if one.plan != other.plan:
        raise OtherPlan()
