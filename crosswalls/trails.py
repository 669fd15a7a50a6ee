"""Trails: the rows of the images of a room, for all powers of a motion."""

from math import lcm

from crosswalls.courses import strides_met
from crosswalls.forms import row_behind
from crosswalls.names import followed
from crosswalls.spans import least_cycle, mask_of, told_by
from crosswalls.turns import image_by
from crosswalls.ways import all_cross, parted


class Trail:
    """Whether rooms are asked for that are led by every second power of a shift, from some lap on.

    flags tells it for the laps from `first` on, two by two; the last ones, as many
    as `again` tells, come again and again.
    """

    def __init__(self, plan, form, wanted, path, still):
        # Behind so many strides all ways are the same but for further strides.
        begin, stride, end, met = path_told(plan, path, still)
        lap = met + 1
        if (lap & 1 == 1) != still:
            lap += 1
        row = row_behind(plan, form, 0, begin + stride * (lap - met))
        self.first = lap
        seen = {}
        self.flags = []
        while row not in seen:
            seen[row] = len(self.flags)
            self.flags.append(wanted[row_behind(plan, form, row, end)])
            row = row_behind(plan, form, row, stride * 2)
        again = len(self.flags) - seen[row]
        mask = mask_of(again, [at for at in range(again) if self.flags[seen[row] + at]])
        self.again = least_cycle(again, [mask])

    def holds(self, lap):
        """Whether the room of a lap is asked for; every second lap from the first one on is told."""
        place = (lap - self.first) // 2
        if place >= len(self.flags):
            place = len(self.flags) - 1 - (len(self.flags) - 1 - place) % self.again
        return self.flags[place]


def path_told(plan, path, still):
    """The parts of a path, (room, still letters, stride, way home, goal), of which the stride comes again.

    The result is (begin, stride, end, met): behind more strides than met the ways
    of the path are begin, the further strides and end, without losing a letter.
    """
    room, letters, stride, goal = path
    front = followed(plan, "", room + letters if still else room)
    back = followed(plan, "", goal[::-1] + room)
    met = strides_met(plan, back, stride[::-1])
    end = followed(plan, back, stride[::-1] * met)[::-1]
    # Letters that cross all of the stride are put ahead of it.
    loose = "".join([kind for kind in plan.kinds if all_cross(plan, kind, stride)])
    kept, moved = parted(plan, front, loose)
    rest, ahead = parted(plan, end[::-1], loose)
    return kept + followed(plan, "", moved + ahead[::-1]), stride, rest[::-1], met


def times_told(turn, form, wanted, name):
    """For which powers of a motion the image of the room with this name is asked for, as told_by tells it."""
    plan = turn.plan
    images = [image_by(plan, turn.home, turn.renaming, many, name) for many in range(turn.many)]
    ahead = trails_of(turn, form, wanted, images, turn.stride)
    back = trails_of(turn, form, wanted, images, turn.stride[::-1])
    cycle = 2 * turn.many
    laps = 0
    for pair in ahead + back:
        for trail in pair:
            cycle = lcm(cycle, 2 * turn.many * trail.again)
            laps = max(int(laps), trail.first + 2 * len(trail.flags))
    far = turn.many * laps + cycle
    flags = []
    for number in range(-far, far + 1):
        lap, rest = divmod(number, turn.many)
        trail = ahead[rest][lap & 1] if lap >= 0 else back[rest][lap & 1]
        if abs(lap) >= trail.first:
            flags.append(trail.holds(abs(lap)))
        else:
            flags.append(wanted[row_behind(plan, form, 0, turn.image(number, name))])
    return told_by(-far, flags, cycle)


def trails_of(turn, form, wanted, images, stride):
    """For each first image of a room its trails by even and by odd laps."""
    return [
        [Trail(turn.plan, form, wanted, (turn.room, turn.still, stride, image), still) for still in (False, True)]
        for image in images
    ]
