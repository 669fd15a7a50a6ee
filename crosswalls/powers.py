"""Powers of shifts: which shifts can be exchanged with one, and of which shifts it is a power."""

from math import gcd

from crosswalls.checks import check_same_plan, is_integer_from
from crosswalls.errors import InvalidTimes, Renamed, Stands
from crosswalls.motions import Motion, motion_to
from crosswalls.names import followed
from crosswalls.plans import Plan
from crosswalls.rooms import room_named
from crosswalls.turns import turn_of
from crosswalls.ways import all_cross, those_across


class Along:
    """The shifts n with n * motion == motion * n."""

    def __init__(self, motion):
        check_shift(motion)
        plan = motion.plan
        turn = turn_of(motion)
        self.motion = motion
        self.room = room_named(plan, turn.room)
        self.kinds = "".join([kind for kind in plan.kinds if is_along(plan, turn, kind)])
        self.strides = tuple([root_of(plan, part)[0] for part in parts_of(plan, turn.stride)])

    def __contains__(self, x):
        return is_exchanged(self.motion, x)

    def parts(self, n):
        """The name of the way in the kinds, and how often each stride is taken, or None for any other value."""
        if not is_exchanged(self.motion, n):
            return None
        plan = self.motion.plan
        name = followed(plan, "", self.room.name[::-1] + n.home.name + self.room.name)
        powers = [power_of(plan, stride, letters_in(name, stride)) for stride in self.strides]
        return followed(plan, "", letters_in(name, self.kinds)), tuple(powers)


def along(motion):
    """The shifts that can be exchanged with a shift."""
    return Along(motion)


def check_shift(motion):
    """Raise Renamed for a motion that is no shift."""
    if motion.renaming != motion.plan.kinds:
        raise Renamed(motion)


def is_exchanged(motion, value):
    """Whether any value is a shift that can be exchanged with this one."""
    if not isinstance(value, Motion) or value.plan != motion.plan or value.renaming != motion.renaming:
        return False
    name = followed(motion.plan, motion.home.name, value.home.name)
    return name == followed(motion.plan, value.home.name, motion.home.name)


def is_along(plan, turn, kind):
    """Whether the shift by this kind can be exchanged with those by the turn's single letters and by its stride."""
    return all_cross(plan, kind, turn.stride) and all_cross(plan, kind, turn.still.replace(kind, ""))


def letters_in(way, kinds):
    """The letters of a way that are among some kinds."""
    return "".join([kind for kind in way if kind in kinds])


def parts_of(plan, stride):
    """The stride as ways of which all letters of one cross those of the others, as many as there can be."""
    kinds = letters_in(plan.kinds, stride)
    own = Plan(kinds, [pair for pair in plan.pairs if not pair.strip(kinds)])
    return [letters_in(stride, part) for part in own.parts()]


def root_of(plan, part):
    """The shortest way of which a part of a stride is a power, and its exponent."""
    many = 0
    for kind in plan.kinds:
        many = gcd(many, part.count(kind))
    for exponent in range(many, 1, -1):
        if many % exponent == 0:
            start = first_letters(part, exponent)
            if followed(plan, "", start * exponent) == followed(plan, "", part):
                return followed(plan, "", start), exponent
    return followed(plan, "", part), 1


def first_letters(part, exponent):
    """Of the letters of each kind in a way the first ones, so that the way has so many times as many."""
    return "".join([
        kind for at, kind in enumerate(part) if part[:at].count(kind) * exponent < part.count(kind)
    ])


def power_of(plan, stride, name):
    """The exponent, also below 0, of a power of a stride, told by its name."""
    many = len(name) // len(stride)
    return many if followed(plan, "", stride * many) == name else -many


def roots(motion, n):
    """A shift whose power n is this one, or None, and how many there are, or None for endlessly many."""
    check_shift(motion)
    if not is_integer_from(1, n):
        raise InvalidTimes(n)
    turn = turn_of(motion)
    way = root_way(motion.plan, turn, n)
    if way is None:
        return None, 0
    first = motion_to(motion.plan, followed(motion.plan, turn.room, way + turn.room[::-1]), motion.renaming)
    if n & 1 == 1:
        return first, 1
    # The shifts whose square leads each room to itself can be put in.
    kinds = Along(motion).kinds
    finite = all([those_across(motion.plan, kinds, kind) == kinds.replace(kind, "") for kind in kinds])
    return first, 1 << len(kinds) if finite else None


def root_way(plan, turn, n):
    """The way, seen from the turn's room, of a shift whose power n is the turn's shift, or None."""
    if n & 1 == 0 and turn.still:
        return None
    way = turn.still
    for part in parts_of(plan, turn.stride):
        stride, exponent = root_of(plan, part)
        if exponent % n != 0:
            return None
        way = way + stride * (exponent // n)
    return way


def root(motion):
    """The shift of which the greatest power is this one that moves, and the exponent."""
    check_shift(motion)
    check_moves(motion)
    turn = turn_of(motion)
    many = 0
    for part in parts_of(motion.plan, turn.stride):
        many = gcd(many, root_of(motion.plan, part)[1])
    while many & 1 == 0 and turn.still:
        many = many // 2
    return roots(motion, many)[0], many


def check_moves(motion):
    """Raise Stands for a motion that stands."""
    if motion.stands:
        raise Stands(motion)


def same_powers(first, second):
    """The least power of the first shift, above 0, that is a power of the second one, and which, or None."""
    check_shift(first)
    check_shift(second)
    check_same_plan(first, second)
    check_moves(first)
    check_moves(second)
    one = turn_of(first)
    other = turn_of(second)
    many = gcd(len(one.stride), len(other.stride))
    # Where strides are alike in some powers, they are so in the first ones; single letters are in the second ones.
    for laps in (1, 2):
        number = laps * (len(other.stride) // many)
        strange = laps * (len(one.stride) // many)
        for wanted in (strange, -strange):
            if one.image(number, "") == other.image(wanted, ""):
                return number, wanted
    return None
