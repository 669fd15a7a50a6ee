"""Cores: which motions can be led to one another."""

from crosswalls.checks import check_same_plan
from crosswalls.motions import Motion, motion_to
from crosswalls.names import followed
from crosswalls.renames import check_renaming
from crosswalls.rooms import room_named
from crosswalls.settling import settled


def core(motion):
    """Of all motions that are alike to this one, the one whose home comes first."""
    home = settled(motion.plan, motion.home.name, motion.renaming)[0]
    return motion_to(motion.plan, home, motion.renaming)


def to_core(motion):
    """A room from which the motion is seen as its core."""
    return room_named(motion.plan, settled(motion.plan, motion.home.name, motion.renaming)[1])


def led(first, second, *, renamings=None):
    """A motion c with c * first * ~c == second, or None if there is none with these renamings."""
    check_same_plan(first, second)
    plan = first.plan
    if renamings is None:
        renamings = [plan.kinds]
    for renaming in renamings:
        check_renaming(plan, renaming)
    home, room = settled(plan, second.home.name, second.renaming)
    for renaming in renamings:
        turned = Motion(plan, "", renaming)
        other = turned * first * ~turned
        if other.renaming == second.renaming:
            its_home, its_room = settled(plan, other.home.name, other.renaming)
            if its_home == home:
                return motion_to(plan, followed(plan, room, its_room[::-1]), renaming)
    return None


def least_step(motion):
    """The least distance between a room and the room to which it is led, and such a room."""
    home, room = settled(motion.plan, motion.home.name, motion.renaming)
    return len(home), room_named(motion.plan, room)
