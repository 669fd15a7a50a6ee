"""The errors of the program. Each holds, as attributes, what it was created from."""


class FloorError(ValueError):
    """What all errors of the program derive from."""


class InvalidPlan(FloorError):
    """A value that tells no kinds, or an entry that is no pair of two of them."""

    def __init__(self, value):
        self.value = value


class InvalidKind(FloorError):
    """A value that is no kind of the plan."""

    def __init__(self, value):
        self.value = value


class InvalidWay(FloorError):
    """A way with a letter, at this index, that is no kind of the plan."""

    def __init__(self, index):
        self.index = index


class SameKind(FloorError):
    """A kind that stands twice, or in both of two plans."""

    def __init__(self, kind):
        self.kind = kind


class OtherPlan(FloorError):
    """Objects of unequal plans that are used together."""


class InvalidRenaming(FloorError):
    """A value that is no renaming of the plan."""

    def __init__(self, value):
        self.value = value


class TooLong(FloorError):
    """A way or a name with so many letters."""

    def __init__(self, length):
        self.length = length


class TooMany(FloorError):
    """More than the most that there may be."""

    def __init__(self, most):
        self.most = most


class NotCrossing(FloorError):
    """Two walls that do not cross."""

    def __init__(self, one, other):
        self.one = one
        self.other = other


class NoWalls(FloorError):
    """An empty list of walls."""


class NoneBeyond(FloorError):
    """Two walls that do not cross, beyond which there is no room for both."""

    def __init__(self, one, other):
        self.one = one
        self.other = other


class NoRooms(FloorError):
    """An empty list of rooms."""


class InvalidWeights(FloorError):
    """A value that tells no weights of the rooms."""

    def __init__(self, value):
        self.value = value


class Endless(FloorError):
    """Endlessly many rooms where finitely many are asked for."""


class EmptyLot(FloorError):
    """A lot without a room where one is asked for."""


class InvalidNumber(FloorError):
    """A value that is not a number as it is expected."""

    def __init__(self, value):
        self.value = value


class TooFar(FloorError):
    """A number that is too great to be counted to."""

    def __init__(self, number):
        self.number = number


class NoSuch(FloorError):
    """A rank at which nothing stands."""

    def __init__(self, rank):
        self.rank = rank


class NotShortest(FloorError):
    """A value that is none of the shortest ways."""

    def __init__(self, way):
        self.way = way


class NotBetween(FloorError):
    """A wall that does not part the two rooms."""

    def __init__(self, wall):
        self.wall = wall


class Moves(FloorError):
    """A motion that moves where one that stands is asked for."""

    def __init__(self, motion):
        self.motion = motion


class Stands(FloorError):
    """A motion that stands where one that moves is asked for."""

    def __init__(self, motion):
        self.motion = motion


class Renamed(FloorError):
    """A motion that is no shift where a shift is asked for."""

    def __init__(self, motion):
        self.motion = motion


class InvalidTimes(FloorError):
    """A value that is no period, rest or exponent as it is expected."""

    def __init__(self, value):
        self.value = value


class BadTables(FloorError):
    """A value that does not have the shape of tables, or of their colours."""

    def __init__(self, value):
        self.value = value


class InvalidTable(FloorError):
    """An entry of a table that is no place or does not lead back."""

    def __init__(self, kind, place):
        self.kind = kind
        self.place = place


class NotExchanged(FloorError):
    """A place from which two crossing doors lead apart in their two orders."""

    def __init__(self, place, first, second):
        self.place = place
        self.first = first
        self.second = second


class NoPlace(FloorError):
    """A value that is no place of the closed floor."""

    def __init__(self, place):
        self.place = place


class NotHull(FloorError):
    """A room of the hull that the rooms lack."""

    def __init__(self, room):
        self.room = room


class InvalidColour(FloorError):
    """A value that is no colour."""

    def __init__(self, value):
        self.value = value


class NoRegion(FloorError):
    """A painting with this colour where a region is expected."""

    def __init__(self, colour):
        self.colour = colour


class NotClosed(FloorError):
    """A painting that lies on no closed floor."""


class Broken(FloorError):
    """A door that is barred."""

    def __init__(self, room, kind):
        self.room = room
        self.kind = kind


class NotBarred(FloorError):
    """A triple that is not barred."""

    def __init__(self, first, kind, second):
        self.first = first
        self.kind = kind
        self.second = second


class NothingToUndo(FloorError):
    """No deed that could be taken back."""


class InvalidLine(FloorError):
    """A value that is no line of a desk."""

    def __init__(self, value):
        self.value = value


class UnknownName(FloorError):
    """A name under which a desk has no map."""

    def __init__(self, name):
        self.name = name


class NameTaken(FloorError):
    """A name under which a desk has a map already."""

    def __init__(self, name):
        self.name = name


class LineFailed(FloorError):
    """The line with this index, which could not be done."""

    def __init__(self, index):
        self.index = index
