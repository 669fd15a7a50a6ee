"""On which side of a wall the images of a room are, for all powers of a motion."""

from crosswalls.courses import Course
from crosswalls.names import behind


class Sides:
    """The courses from the two rooms at the least door of a wall to the images of a room.

    The room is beyond the wall when its image is nearer to the far one of them.
    """

    def __init__(self, turn, wall, name):
        self.near = Course(turn, wall.room.name, name)
        self.far = Course(turn, behind(wall.plan, wall.room.name, wall.kind), name)

    def lowest(self):
        """The first power from which both courses are told by their tables."""
        return min(int(self.near.first), self.far.first)

    def highest(self):
        """The last power up to which both courses are told by their tables."""
        return max(int(self.near.last()), self.far.last())

    def is_beyond(self, number):
        """Whether the image in a power is beyond the wall."""
        return self.far.at(number) < self.near.at(number)

    def beyond_flags(self):
        """Whether the image is beyond the wall, for all powers from the first to the last one."""
        return [self.is_beyond(number) for number in range(self.lowest(), self.highest() + 1)]
