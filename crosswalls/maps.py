"""Maps of all rooms that can be changed: a painting, and single rooms of other colours."""

from crosswalls.checks import check_same_plan
from crosswalls.errors import Broken, NotBarred, NothingToUndo
from crosswalls.names import ascending, behind, followed
from crosswalls.paintings import check_triple
from crosswalls.patches import (
    Barring, colour_at, colours_by_name, cut_patch, first_break, first_break_at, first_difference, rooms_around,
)
from crosswalls.regions import check_colour
from crosswalls.renames import renamed
from crosswalls.rooms import room_named


class Map:
    """A map of all rooms. What it holds is never changed but replaced, so that it can be taken up again."""

    def __init__(self, painting):
        self.plan = painting.plan
        self.base = painting
        self._patch = {}
        self._triples = []
        self._deeds = []

    def __len__(self):
        return len(self._patch)

    def __iter__(self):
        raise TypeError("a map is not iterated over")

    def __getitem__(self, at):
        check_same_plan(self, at)
        return colour_at(self.base, self._patch, at.name)

    def __setitem__(self, at, worth):
        check_same_plan(self, at)
        check_colour(worth)
        self._change_room(at.name, worth)

    def __eq__(self, other):
        if not isinstance(other, Map) or self.plan != other.plan:
            return False
        return first_difference(self.base, self._patch, other.base, other._patch) is None

    def first_apart(self, other):
        """The first room that has different colours in the two maps, or None."""
        check_same_plan(self, other)
        name = first_difference(self.base, self._patch, other.base, other._patch)
        return None if name is None else room_named(self.plan, name)

    def wipe(self, room):
        """Give a room the colour of the base again."""
        check_same_plan(self, room)
        self._change_room(room.name, colour_at(self.base, {}, room.name))

    def patch(self):
        """The pairs (room, colour) of all rooms whose colour is not that of the base, ascending."""
        return [(room_named(self.plan, name), self._patch[name]) for name in ascending(self._patch)]

    def fill(self, region, colour):
        """Give a colour to all rooms of a region."""
        base = self.base.filled(region, colour)
        patch = {name: self._patch[name] for name in self._patch if colour_at(region, {}, name) == "no"}
        self._change(base, patch)

    def move(self, motion):
        """Lead the whole map by a motion."""
        check_same_plan(self, motion)
        patch = {}
        for name in self._patch:
            way = renamed(self.plan, motion.renaming, name)
            patch[followed(self.plan, motion.home.name, way)] = self._patch[name]
        self._change(self.base.led_by(motion), patch)

    def step(self, rule):
        """Give each room the colour that a rule tells by its own one and those around."""
        base = self.base.step(rule)
        near = rooms_around(self.plan, self._patch)
        colours = colours_by_name(self.base, self._patch, rooms_around(self.plan, near))
        patch = {}
        for name in near:
            around = tuple([colours[behind(self.plan, name, kind)] for kind in self.plan.kinds])
            patch[name] = rule(colours[name], around)
            check_colour(patch[name])
        self._change(base, cut_patch(base, patch))

    def copied(self):
        """A new map with the same rooms and barred triples, without deeds."""
        copy = Map(self.base)
        copy._patch = self._patch
        copy._triples = self._triples
        return copy

    def count(self, colour):
        """The number of the rooms of a colour, or None for endlessly many."""
        found = self.base.count(colour)
        if found is None:
            return None
        for name in self._patch:
            found = found - (1 if colour_at(self.base, {}, name) == colour else 0)
            found = found + (1 if self._patch[name] == colour else 0)
        return found

    def bar(self, first, kind, second):
        """Bar the doors of a kind between rooms of two colours."""
        check_triple(self.plan, first, kind, second)
        triples = self._triples
        if (first, kind, second) not in triples:
            triples = triples + [(first, kind, second)]
        self._check(first_break(self.base, self._patch, Barring(triples)))
        self._keep_deed()
        self._triples = triples

    def free(self, first, kind, second):
        """Take back a barred triple."""
        check_triple(self.plan, first, kind, second)
        if (first, kind, second) not in self._triples:
            raise NotBarred(first, kind, second)
        self._keep_deed()
        self._triples = [triple for triple in self._triples if triple != (first, kind, second)]

    def barred(self):
        """The barred triples in the order in which they were added."""
        return list(self._triples)

    def undo(self):
        """Take back the latest deed that is not taken back yet."""
        if not self._deeds:
            raise NothingToUndo()
        self.base, self._patch, self._triples = self._deeds[-1]
        self._deeds = self._deeds[:-1]

    def undoable(self):
        """How many deeds can be taken back."""
        return len(self._deeds)

    def attempt(self, action):
        """The result of an action upon this map; if it raises an error, the map is as before."""
        base, patch, triples, deeds = self.base, self._patch, self._triples, self._deeds
        failed = True
        try:
            result = action(self)
            failed = None
        finally:
            if failed is not None:
                self.base = base
                self._patch = patch
                self._triples = triples
                self._deeds = deeds
        return result

    def trial(self, action):
        """The result of an action upon this map, which is as before afterwards."""
        base, patch, triples, deeds = self.base, self._patch, self._triples, self._deeds
        try:
            return action(self)
        finally:
            self.base = base
            self._patch = patch
            self._triples = triples
            self._deeds = deeds

    def _change_room(self, name, colour):
        """Give a colour to one room, as a deed."""
        patch = dict(self._patch)
        patch[name] = colour
        patch = cut_patch(self.base, patch)
        # No door was barred before, so only those of this room can be.
        self._check(first_break_at(self.base, patch, Barring(self._triples), [name]))
        self._keep_deed()
        self._patch = patch

    def _change(self, base, patch):
        """Take another base and another patch, as a deed."""
        if self._triples:
            self._check(first_break(base, patch, Barring(self._triples)))
        self._keep_deed()
        self.base = base
        self._patch = patch

    def _check(self, door):
        """Raise Broken for a barred door."""
        if door is not None:
            raise Broken(room_named(self.plan, door[0]), door[1])

    def _keep_deed(self):
        """Keep what the map holds ahead of a deed."""
        self._deeds = self._deeds + [(self.base, self._patch, self._triples)]
