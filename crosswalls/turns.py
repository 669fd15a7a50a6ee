"""Turns: motions as they are seen from a room where their powers tell most.

The least power of a motion that renames nothing is a shift. From a room that is
chosen well it is the shift by a way of two parts: `still`, single letters that
cross all other letters of the way, which comes to nothing in each second power,
and `stride`, of which all powers are shortest ways. All letters of the one part
cross those of the other.
"""

from crosswalls.names import followed
from crosswalls.renames import renamed, renaming_order, renaming_power
from crosswalls.ways import all_cross, starts_with, without_first


class Turn:
    """A motion, told by the name of its home and by its renaming.

    many is the least power that is a shift, and room the name of the room from
    which still and stride lead to its image in this power.
    """

    def __init__(self, plan, home, renaming):
        self.plan = plan
        self.home = home
        self.renaming = renaming
        self.many = renaming_order(plan, renaming)
        self.room, core = unwound(plan, image_by(plan, home, renaming, self.many, ""))
        self.still = "".join([kind for kind in core if is_single(plan, core, kind)])
        self.stride = "".join([kind for kind in core if kind not in self.still])

    def image(self, number, name):
        """The name of the room to which a power of the motion leads the room with this name."""
        laps, rest = divmod(number, self.many)
        return followed(self.plan, "", self.shift_way(laps) + image_by(self.plan, self.home, self.renaming, rest, name))

    def shift_way(self, laps):
        """A way to the home of the shift that is so often the shift by still and stride."""
        stride = self.stride if laps > 0 else self.stride[::-1]
        still = self.still if laps & 1 == 1 else ""
        return self.room + still + stride * abs(laps) + self.room[::-1]

    def renaming_of(self, number):
        """The renaming of a power of the motion."""
        return renaming_power(self.plan, self.renaming, number % self.many)


def turn_of(motion):
    """The turn that tells the powers of a motion."""
    return Turn(motion.plan, motion.home.name, motion.renaming)


def image_by(plan, home, renaming, many, name):
    """The name of the room to which so many times, 0 or more, the motion leads the room with this name."""
    for _ in range(many):
        name = followed(plan, home, renamed(plan, renaming, name))
    return name


def unwound(plan, way):
    """A way and the name of another one between: that of the shift by the one way, seen from the room of the other.

    The result is the name of the room and the way, which cannot be made shorter
    like this.
    """
    room = ""
    kind = loose_kind(plan, way)
    while kind:
        # The least kind is taken first, so these letters are a name.
        room = room + kind
        rest = without_first(plan, way, kind)
        way = without_first(plan, rest[::-1], kind)[::-1]
        kind = loose_kind(plan, way)
    return room, followed(plan, "", way)


def loose_kind(plan, way):
    """A kind of which one letter can come first and another one last, or the empty string."""
    for kind in plan.kinds:
        if starts_with(plan, way, kind) and starts_with(plan, without_first(plan, way, kind)[::-1], kind):
            return kind
    return ""


def is_single(plan, way, kind):
    """Whether a kind crosses all others of a way; in a way that is unwound it stands there once."""
    return all_cross(plan, kind, way.replace(kind, ""))
