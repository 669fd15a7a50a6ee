"""Desks: maps by names, on which lines are done."""

from crosswalls.errors import FloorError, LineFailed, NothingToUndo, UnknownName
from crosswalls.lines import maps_after


class Desk:
    """Maps of one plan by their names. The dict of the maps is never changed but replaced."""

    def __init__(self, plan):
        self.plan = plan
        self._maps = {}
        self._lines = []
        self._deeds = []

    def __len__(self):
        return len(self._maps)

    def __iter__(self):
        raise TypeError("a desk is not iterated over")

    def __contains__(self, x):
        return isinstance(x, str) and x in self._maps

    def __getitem__(self, at):
        if not isinstance(at, str) or at not in self._maps:
            raise UnknownName(at)
        return self._maps[at].copied()

    def names(self):
        """The names of the maps, in alphabetical order."""
        return sorted([str(name) for name in self._maps])

    def do(self, line):
        """Do one line."""
        maps = maps_after(self.plan, self._maps, line)
        self._take(maps, [line])

    def do_all(self, lines):
        """Do all lines as one deed, or none of them."""
        maps = self._maps
        for at, line in enumerate(lines):
            try:
                maps = maps_after(self.plan, maps, line)
            except FloorError as error:
                raise LineFailed(at) from error
        self._take(maps, list(lines))

    def lines(self):
        """The lines that are done and not taken back."""
        return list(self._lines)

    def undo(self):
        """Take back the latest line, or all of those that were done at once."""
        if not self._deeds:
            raise NothingToUndo()
        self._maps, self._lines = self._deeds[-1]
        self._deeds = self._deeds[:-1]

    def undoable(self):
        """How many deeds can be taken back."""
        return len(self._deeds)

    def trial(self, action):
        """The result of an action upon this desk, which is as before afterwards."""
        maps, lines, deeds = self._maps, self._lines, self._deeds
        try:
            return action(self)
        finally:
            self._maps = maps
            self._lines = lines
            self._deeds = deeds

    def _take(self, maps, lines):
        """Take other maps, which some lines have made, as one deed."""
        self._deeds = self._deeds + [(self._maps, self._lines)]
        self._maps = maps
        self._lines = self._lines + lines
