"""Motions of the floor."""

from crosswalls.blocks import Block
from crosswalls.checks import MOST_LETTERS, check_same_plan
from crosswalls.courses import Course
from crosswalls.errors import Moves, Stands, TooLong
from crosswalls.lots import Half, Lot
from crosswalls.names import followed, leads_nearer
from crosswalls.paintings import Painting
from crosswalls.renames import chosen_renaming, renamed, round_of, turned_back
from crosswalls.rooms import Room, room_named
from crosswalls.settling import settled
from crosswalls.turns import turn_of
from crosswalls.walls import Wall, wall_at
from crosswalls.ways import parted


class Motion:
    """The motion that leads home to the end of a way, and from there on goes by the renamed letters."""

    def __init__(self, plan, way="", renaming=None):
        self.plan = plan
        self.home = Room(plan, way)
        self.renaming = chosen_renaming(plan, renaming)

    def __call__(self, thing):
        check_same_plan(self, thing)
        if isinstance(thing, Room):
            return room_named(self.plan, image_name(self, thing.name))
        if isinstance(thing, Wall):
            return wall_at(self.plan, image_name(self, thing.room.name), renamed(self.plan, self.renaming, thing.kind))
        if isinstance(thing, Half):
            return half_led(self, thing)
        if isinstance(thing, Lot):
            return lot_led(self, thing)
        if isinstance(thing, Painting):
            return thing.led_by(self)
        return block_led(self, thing)

    def __mul__(self, other):
        if not isinstance(other, Motion):
            return NotImplemented
        check_same_plan(self, other)
        name = image_name(self, other.home.name)
        return motion_to(self.plan, name, renamed(self.plan, self.renaming, other.renaming))

    def __invert__(self):
        back = turned_back(self.plan, self.renaming)
        return motion_to(self.plan, followed(self.plan, "", renamed(self.plan, back, self.home.name[::-1])), back)

    def __eq__(self, other):
        return isinstance(other, Motion) and self.renaming == other.renaming and self.home == other.home

    def power(self, n):
        """The motion that is done n times, or turned about for n below 0."""
        turn = turn_of(self)
        if turn.stride == "":
            n = n % (2 * turn.many)
        # Homes of few powers are short at any rate, and need not be measured first.
        if abs(n) * len(self.home) > MOST_LETTERS:
            length = Course(turn, "", "").at(n)
            if length > MOST_LETTERS:
                raise TooLong(length)
        return motion_to(self.plan, turn.image(n, ""), turn.renaming_of(n))

    @staticmethod
    def leading(first, second, renaming=None):
        """The motion with this renaming that leads the room first to the room second."""
        check_same_plan(first, second)
        plan = first.plan
        renaming = chosen_renaming(plan, renaming)
        return motion_to(plan, followed(plan, second.name, renamed(plan, renaming, first.name[::-1])), renaming)

    @staticmethod
    def about(wall):
        """The shift that exchanges the two rooms at each door of a wall."""
        name = followed(wall.plan, wall.room.name, wall.kind + wall.room.name[::-1])
        return motion_to(wall.plan, name, wall.plan.kinds)

    @property
    def order(self):
        """The least number above 0 of a power that leads each room to itself, or None."""
        turn = turn_of(self)
        if turn.stride:
            return None
        return turn.many if turn.still == "" else 2 * turn.many

    @property
    def stands(self):
        """Whether some power above 0 leads each room to itself."""
        return turn_of(self).stride == ""

    @property
    def speed(self):
        """By how much rooms get farther from where they were with each power, in the long run."""
        turn = turn_of(self)
        return len(turn.stride) // turn.many

    def kept(self):
        """A room and the fewest kinds so that the motion leads their block onto itself."""
        if not self.stands:
            raise Moves(self)
        room = settled(self.plan, self.home.name, self.renaming)[1]
        kinds = "".join([kind for kind in self.plan.kinds if is_odd(self, kind)])
        return room_named(self.plan, room), kinds

    def line(self):
        """A room, a way and a power that leads the room along this way, over and over again."""
        turn = turn_of(self)
        if turn.stride == "":
            raise Stands(self)
        return room_named(self.plan, turn.room), turn.stride * 2, 2 * turn.many


def motion_to(plan, name, renaming):
    """The motion that leads home to the room with this name, with a renaming of the plan."""
    motion = Motion(plan)
    motion.home = room_named(plan, name)
    motion.renaming = renaming
    return motion


def image_name(motion, name):
    """The name of the room to which a motion leads the room with this name; both may have any length."""
    return followed(motion.plan, motion.home.name, renamed(motion.plan, motion.renaming, name))


def half_led(motion, half):
    """The half to which a motion leads a half."""
    kind = renamed(motion.plan, motion.renaming, half.wall.kind)
    name = image_name(motion, half.wall.room.name)
    # The room of the wall is on its near side.
    turned = leads_nearer(motion.plan, name, kind)
    return Half(wall_at(motion.plan, name, kind), turned != half.far)


def lot_led(motion, lot):
    """The lot to which a motion leads a lot."""
    image = Lot(motion.plan, [half_led(motion, half) for half in lot.halves])
    # The halves of the empty lot do not tell it.
    if lot.start is None:
        image.start = None
    return image


def block_led(motion, block):
    """The block to which a motion leads a block."""
    kinds = renamed(motion.plan, motion.renaming, block.kinds)
    name = parted(motion.plan, image_name(motion, block.room.name), kinds)[0]
    return Block(room_named(motion.plan, name), kinds)


def is_odd(motion, kind):
    """Whether the name of the motion's home has an odd number of letters of the round of a kind."""
    members = round_of(motion.plan, motion.renaming, kind)
    return sum([motion.home.name.count(member) for member in members]) & 1 == 1
