"""Paintings: colours of all rooms that come again."""

from crosswalls.checks import check_kind, check_same_plan
from crosswalls.closed import Closed
from crosswalls.errors import BadTables, NotClosed
from crosswalls.forms import (
    colours_of, form_of, form_of_both, graph_of_both, graph_of_tables, recoloured, row_behind,
)
from crosswalls.gaits import When
from crosswalls.regions import ball_form, check_colour, check_region, half_form, lot_form
from crosswalls.rooms import Room, room_named
from crosswalls.rows import (
    first_names, many_rooms_with, names_with, nearest_step, numbers_at, rows_with,
)
from crosswalls.tables import check_entries, check_exchanged, check_shape
from crosswalls.trails import times_told
from crosswalls.turns import turn_of
from crosswalls.views import graph_around, led_form, seen_behind, seen_form, through_form

# For which pairs of colours, in two regions, a room is in the region that comes of both.
BOTH = (("yes", "yes"),)
EITHER = (("yes", "yes"), ("yes", "no"), ("no", "yes"))
FIRST_ALONE = (("yes", "no"),)
ONE_ALONE = (("yes", "no"), ("no", "yes"))


class Painting:
    """A colour for each room of a floor, told by states, tables and their colours."""

    def __init__(self, plan, tables, colours):
        if not isinstance(colours, (list, tuple)) or len(colours) == 0:
            raise BadTables(colours)
        check_shape(plan, tables, len(colours))
        check_entries(plan, tables)
        check_exchanged(plan, tables)
        for colour in colours:
            check_colour(colour)
        states, nearer, after = graph_of_tables(plan, tables)
        self.plan = plan
        self.form = form_of([colours[state] for state in states], nearer, after)

    def __len__(self):
        return len(self.form)

    def __iter__(self):
        raise TypeError("a painting is not iterated over")

    def __getitem__(self, at):
        check_same_plan(self, at)
        return self.form[row_behind(self.plan, self.form, 0, at.name)][0]

    def __eq__(self, other):
        return isinstance(other, Painting) and self.plan == other.plan and self.form == other.form

    def first_apart(self, other):
        """The first room to which the two paintings give different colours, or None."""
        check_same_plan(self, other)
        nodes, after = graph_of_both(self.form, other.form)
        names = {0: ""}
        for at, (own, strange) in enumerate(nodes):
            if self.form[own][0] != other.form[strange][0]:
                return room_named(self.plan, names[at])
            for kind, end in zip(self.plan.kinds, after[at]):
                if end is not None and end not in names:
                    names[end] = names[at] + kind
        return None

    @staticmethod
    def of_closed(closed, colours):
        """The painting that gives each room the colour of its place."""
        if not isinstance(colours, (list, tuple)) or len(colours) != len(closed):
            raise BadTables(colours)
        return Painting(closed.plan, closed.tables, colours)

    @staticmethod
    def plain(plan, colour):
        """The painting of one colour."""
        return Painting(plan, [[0] for _ in plan.kinds], [colour])

    @staticmethod
    def spot(room):
        """The region of one room."""
        return painting_of(room.plan, ball_form(room, 0))

    @staticmethod
    def ball(room, distance):
        """The region of the rooms at most so far from a room."""
        return painting_of(room.plan, ball_form(room, distance))

    @staticmethod
    def of_half(half):
        """The region of the rooms of a half."""
        return painting_of(half.plan, half_form(half))

    @staticmethod
    def of_lot(lot):
        """The region of the rooms of a lot."""
        return painting_of(lot.plan, lot_form(lot))

    def __invert__(self):
        check_region(self)
        return painting_of(self.plan, recoloured(self.form, ["no" if row[0] == "yes" else "yes" for row in self.form]))

    def __and__(self, other):
        if not isinstance(other, Painting):
            return NotImplemented
        return region_of_both(self, other, BOTH)

    def __or__(self, other):
        if not isinstance(other, Painting):
            return NotImplemented
        return region_of_both(self, other, EITHER)

    def __sub__(self, other):
        if not isinstance(other, Painting):
            return NotImplemented
        return region_of_both(self, other, FIRST_ALONE)

    def __xor__(self, other):
        if not isinstance(other, Painting):
            return NotImplemented
        return region_of_both(self, other, ONE_ALONE)

    def __contains__(self, x):
        check_region(self)
        if not isinstance(x, Room) or x.plan != self.plan:
            return False
        return self.form[row_behind(self.plan, self.form, 0, x.name)][0] == "yes"

    def __le__(self, other):
        if not isinstance(other, Painting):
            return NotImplemented
        check_regions(self, other)
        nodes = graph_of_both(self.form, other.form)[0]
        return not any([self.form[own][0] == "yes" and other.form[strange][0] == "no" for own, strange in nodes])

    def where(self, colour):
        """The region of the rooms of a colour."""
        check_colour(colour)
        wanted = rows_with(self.form, colour)
        return painting_of(self.plan, recoloured(self.form, ["yes" if asked else "no" for asked in wanted]))

    def filled(self, region, colour):
        """The painting in which the rooms of a region get a colour."""
        check_same_plan(self, region)
        check_region(region)
        check_colour(colour)
        told = {(own, inside): colour if inside == "yes" else own
                for own in colours_of(self.form) for inside in ("yes", "no")}
        return painting_of(self.plan, form_of_both(self.form, region.form, told))

    def exchanged(self, colours):
        """The painting with other colours for those that are keys of a dict."""
        return painting_of(self.plan, recoloured(self.form, [colours.get(row[0], row[0]) for row in self.form]))

    def joined(self, other, rule):
        """The painting in which a rule tells the colour of each room by its colours in this one and another."""
        check_same_plan(self, other)
        told = {}
        for own in colours_of(self.form):
            for strange in colours_of(other.form):
                told[own, strange] = rule(own, strange)
                check_colour(told[own, strange])
        return painting_of(self.plan, form_of_both(self.form, other.form, told))

    def seen_from(self, room):
        """The painting that gives each room the colour of the room to which its name leads from this room."""
        check_same_plan(self, room)
        return painting_of(self.plan, seen_form(self.plan, self.form, room.name))

    def led_by(self, motion):
        """The painting to which a motion leads this one."""
        check_same_plan(self, motion)
        return painting_of(self.plan, led_form(self.plan, self.form, motion.home.name, motion.renaming))

    def through(self, kind):
        """The painting in which each room has the colour of the room behind its door of this kind."""
        check_kind(self.plan, kind)
        return painting_of(self.plan, through_form(self.plan, self.form, kind))

    def step(self, rule):
        """The painting in which a rule tells the colour of each room by its own one and those around."""
        rows, around, nearer, after = graph_around(self.plan, self.form)
        told = {}
        colours = []
        for row, ends in zip(rows, around):
            seen = (self.form[row][0], tuple([self.form[end][0] for end in ends]))
            if seen not in told:
                told[seen] = rule(seen[0], seen[1])
                check_colour(told[seen])
            colours.append(told[seen])
        return painting_of(self.plan, form_of(colours, nearer, after))

    def count(self, colour):
        """The number of the rooms of a colour, or None for endlessly many."""
        check_colour(colour)
        return many_rooms_with(self.form, rows_with(self.form, colour))

    def at_distance(self, colour, distance):
        """The number of the rooms of a colour at this distance from home."""
        check_colour(colour)
        numbers = numbers_at(self.form, distance)
        return sum([number for number, row in zip(numbers, self.form) if row[0] == colour])

    def rooms(self, colour, most):
        """The first rooms of a colour, ascending, at most so many."""
        check_colour(colour)
        names = names_with(self.plan, self.form, rows_with(self.form, colour), most)
        return tuple([room_named(self.plan, name) for name in names])

    def distance(self, colour, room):
        """The least distance from a room to one of a colour, or None."""
        check_colour(colour)
        check_same_plan(self, room)
        return nearest_step(self.plan, self.form, rows_with(self.form, colour), room.name)

    def when(self, motion, room, colour):
        """The When of all powers of a motion that lead a room to one of a colour."""
        check_same_plan(self, motion)
        check_same_plan(self, room)
        check_colour(colour)
        told = times_told(turn_of(motion), self.form, rows_with(self.form, colour), room.name)
        return When(*told)

    def breaks(self, barred):
        """The first door that one of some triples bars, as its room nearer home and its kind, or None."""
        for first, kind, second in barred:
            check_triple(self.plan, first, kind, second)
        names = first_names(self.plan, self.form)
        for at, row in enumerate(self.form):
            for kind, end in zip(self.plan.kinds, row[2]):
                if end is not None and is_barred(barred, row[0], kind, self.form[end][0]):
                    return room_named(self.plan, names[at]), kind
        return None

    def closed(self):
        """The least closed floor on which the painting lies, and the colours of its places, or None."""
        views = views_of(self)
        if views is None:
            return None
        floor = Closed(self.plan, views[1])
        # The views are numbered as they are found, and so are the places.
        return floor, tuple([form[0][0] for form in views[0]])

    def share(self, colour):
        """The number of the places of a colour on the least closed floor, and of all places."""
        check_colour(colour)
        found = self.closed()
        if found is None:
            raise NotClosed()
        return len([own for own in found[1] if own == colour]), len(found[1])


def painting_of(plan, form):
    """The painting with a form."""
    painting = Painting(plan, [[0] for _ in plan.kinds], [form[0][0]])
    painting.form = form
    return painting


def check_regions(one, other):
    """Raise OtherPlan or NoRegion for two paintings that are not regions of one plan."""
    check_same_plan(one, other)
    check_region(one)
    check_region(other)


def region_of_both(one, other, kept):
    """The region of the rooms that have, in two others, one of the pairs of colours that are kept."""
    check_regions(one, other)
    pairs = [(own, strange) for own in ("yes", "no") for strange in ("yes", "no")]
    told = {pair: "yes" if pair in kept else "no" for pair in pairs}
    return painting_of(one.plan, form_of_both(one.form, other.form, told))


def check_triple(plan, first, kind, second):
    """Raise InvalidColour or InvalidKind for what is no barred triple."""
    check_colour(first)
    check_kind(plan, kind)
    check_colour(second)


def is_barred(barred, one, kind, other):
    """Whether a door of a kind between rooms of two colours is barred."""
    return any([
        step == kind and ((first == one and second == other) or (first == other and second == one))
        for first, step, second in barred
    ])


def views_of(painting):
    """The forms of all views of a painting, and tables of the views behind each door; None for endlessly many."""
    plan = painting.plan
    wide = [kind for kind in plan.kinds if len(plan.across[kind]) == len(plan.kinds) - 1]
    most = len(painting.form) << len(wide)
    forms = [painting.form]
    numbers = {painting.form: 0}
    ends = []
    while len(ends) < len(forms):
        around = [seen_behind(plan, forms[len(ends)], kind) for kind in plan.kinds]
        for form in around:
            if form not in numbers:
                numbers[form] = len(forms)
                forms.append(form)
        if len(forms) > most:
            return None
        ends.append([numbers[form] for form in around])
    return forms, [[row[at] for row in ends] for at in range(len(plan.kinds))]
