"""Plans: which kinds of doors there are, and which two kinds cross."""

from crosswalls.checks import check_kind
from crosswalls.errors import InvalidPlan, SameKind, TooMany

MOST_KINDS = 8
MOST_KINDS_RENAMED = 6
LEAST_RING = 4


class Plan:
    """The kinds of the doors of a floor, and the pairs of kinds that cross.

    Beside the attributes of the interface a plan has two tables that name
    ways of all lengths quickly: across[kind] are the kinds that cross a kind,
    lesser[kind] those of them that come ahead of it in the alphabet.
    """

    def __init__(self, kinds, crossing=()):
        if not are_letters(kinds):
            raise InvalidPlan(kinds)
        for entry in crossing:
            if not is_pair(kinds, entry):
                raise InvalidPlan(entry)
        if len(kinds) > MOST_KINDS:
            raise TooMany(MOST_KINDS)
        self.kinds = "".join(sorted(set(kinds)))
        self.pairs = tuple(sorted(set([upright(entry) for entry in crossing])))
        self.across = {kind: kinds_across(self.kinds, self.pairs, kind) for kind in self.kinds}
        self.lesser = {kind: kinds_before(self.across[kind], kind) for kind in self.kinds}

    def __eq__(self, other):
        return isinstance(other, Plan) and self.kinds == other.kinds and self.pairs == other.pairs

    def crosses(self, a, b):
        """Whether two kinds cross."""
        check_kind(self, a)
        check_kind(self, b)
        return b in self.across[a]

    def __add__(self, other):
        if not isinstance(other, Plan):
            return NotImplemented
        check_no_common_kind(self, other)
        return Plan(self.kinds + other.kinds, self.pairs + other.pairs)

    def __mul__(self, other):
        if not isinstance(other, Plan):
            return NotImplemented
        check_no_common_kind(self, other)
        joints = [own + strange for own in self.kinds for strange in other.kinds]
        return Plan(self.kinds + other.kinds, self.pairs + other.pairs + tuple(joints))

    @staticmethod
    def ring(kinds):
        """The plan in which each letter crosses the following one, and the last one the first."""
        if not are_letters(kinds) or len(kinds) < LEAST_RING:
            raise InvalidPlan(kinds)
        following = kinds[1:] + kinds[:1]
        return Plan(kinds, [one + after for one, after in zip(kinds, following)])

    @property
    def is_finite(self):
        """Whether every two different kinds cross."""
        many = len(self.kinds)
        return 2 * len(self.pairs) == many * (many - 1)

    def parts(self):
        """The groups of kinds that chains join in which neighbours do not cross."""
        found = []
        for kind in self.kinds:
            if not any([kind in part for part in found]):
                found.append(group_of(self, kind))
        return tuple(found)

    def renamings(self):
        """All renamings of the plan, ascending."""
        if len(self.kinds) > MOST_KINDS_RENAMED:
            raise TooMany(MOST_KINDS_RENAMED)
        found = [""]
        for _ in self.kinds:
            found = [start + image for start in found for image in self.kinds if fits(self, start, image)]
        return found


def are_letters(value):
    """Whether any value is a string of different letters from a to z."""
    if not isinstance(value, str):
        return False
    return len(set(value)) == len(value) and all(["a" <= letter <= "z" for letter in value])


def is_pair(kinds, value):
    """Whether any value is a string of two different ones of these kinds."""
    if not isinstance(value, str) or len(value) != 2:
        return False
    return value[0] != value[1] and value[0] in kinds and value[1] in kinds


def upright(pair):
    """The pair in ascending order."""
    return pair if pair[0] < pair[1] else pair[::-1]


def kinds_across(kinds, pairs, kind):
    """Those of the kinds that cross this one."""
    return "".join([other for other in kinds if upright(kind + other) in pairs])


def kinds_before(kinds, kind):
    """Those of the kinds that come ahead of this one in the alphabet."""
    return "".join([other for other in kinds if other < kind])


def check_no_common_kind(one, other):
    """Raise SameKind for the first kind that both plans have."""
    for kind in one.kinds:
        if kind in other.kinds:
            raise SameKind(kind)


def group_of(plan, kind):
    """The kinds to which chains lead from this one in which neighbours do not cross."""
    members = kind
    # No chain without repetition has more steps than there are kinds.
    for _ in plan.kinds:
        members = "".join([other for other in plan.kinds if is_beside(plan, members, other)])
    return members


def is_beside(plan, members, kind):
    """Whether a kind is one of these members, or does not cross one of them."""
    return any([kind not in plan.across[member] for member in members])


def fits(plan, start, image):
    """Whether this image may come next where a renaming begins with these images."""
    if image in start:
        return False
    kind = plan.kinds[len(start)]
    return all([
        (kind in plan.across[earlier]) == (image in plan.across[its_image])
        for earlier, its_image in zip(plan.kinds, start)
    ])
