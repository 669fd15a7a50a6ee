"""Paintings with single rooms of other colours, which stand in a patch: a dict of colours by the names of rooms."""

from crosswalls.forms import colours_of, form_of_both, row_behind
from crosswalls.names import ascending, behind
from crosswalls.rows import names_with, rows_with


def colour_at(base, patch, name):
    """The colour of the room with this name."""
    return patch[name] if name in patch else base.form[row_behind(base.plan, base.form, 0, name)][0]


def colours_by_name(base, patch, names):
    """The colours of the rooms with these names, in a dict.

    Rooms near one another have names that begin alike, so the rows of all
    beginnings of names are kept.
    """
    plan = base.plan
    rows = {"": 0}
    found = {}
    for name in names:
        many = len(name)
        while name[:many] not in rows:
            many -= 1
        for at in range(many, len(name)):
            rows[name[:at + 1]] = base.form[rows[name[:at]]][2][plan.kinds.index(name[at])]
        found[name] = patch[name] if name in patch else base.form[rows[name]][0]
    return found


def cut_patch(base, patch):
    """The patch without the rooms that have the colour of the base."""
    colours = colours_by_name(base, {}, patch)
    return {name: patch[name] for name in patch if patch[name] != colours[name]}


def rooms_around(plan, names):
    """The names of some rooms and of those behind their doors, as keys of a dict."""
    found = {name: True for name in names}
    for name in names:
        for kind in plan.kinds:
            found[behind(plan, name, kind)] = True
    return found


def first_difference(base, patch, other_base, other_patch):
    """The name of the first room that has different colours in two paintings with patches, or None."""
    plan = base.plan
    own = colours_of(base.form)
    told = {(one, other): "no" if one == other else "yes" for one in own for other in colours_of(other_base.form)}
    apart = form_of_both(base.form, other_base.form, told)
    single = {name: True for name in list(patch) + list(other_patch)}
    # Of so many rooms one at least is in no patch.
    names = names_with(plan, apart, rows_with(apart, "yes"), len(single) + 1)
    found = [name for name in names if name not in single][:1]
    for name in single:
        if colour_at(base, patch, name) != colour_at(other_base, other_patch, name):
            found.append(name)
    return ascending(found)[0] if found else None


class Barring:
    """Barred triples: doors of a kind between rooms of two colours."""

    def __init__(self, triples):
        self.triples = triples
        self._both = {}
        for first, kind, second in triples:
            self._both[first, kind, second] = True
            self._both[second, kind, first] = True

    def stop(self, one, kind, other):
        """Whether a door of a kind between rooms of two colours is barred."""
        return (one, kind, other) in self._both


def first_break_at(base, patch, bars, names):
    """The first barred door of some rooms, as (name of its room nearer home, kind), or None."""
    plan = base.plan
    colours = colours_by_name(base, patch, rooms_around(plan, names))
    found = {}
    for name in names:
        for kind in plan.kinds:
            other = behind(plan, name, kind)
            if bars.stop(colours[name], kind, colours[other]):
                near = name if len(name) < len(other) else other
                found[near + kind] = (near, kind)
    # All of these are shortest ways, in the order of the rooms and then of the kinds.
    return found[ascending(found)[0]] if found else None


def first_break(base, patch, bars):
    """The first barred door of all rooms, as (name of its room nearer home, kind), or None."""
    plan = base.plan
    wanted = [has_barred_door(plan, base.form, bars, row) for row in base.form]
    # The doors of all other rooms lead to no room of the patch.
    single = rooms_around(plan, patch)
    names = names_with(plan, base.form, wanted, len(single) + 1)
    inner = [name for name in names if name in single]
    outer = [name for name in names if name not in single]
    return first_break_at(base, patch, bars, list(patch) + inner + outer[:1])


def has_barred_door(plan, form, bars, row):
    """Whether a door of the rooms of a row, farther from home, is barred."""
    return any([
        end is not None and bars.stop(row[0], kind, form[end][0]) for kind, end in zip(plan.kinds, row[2])
    ])
