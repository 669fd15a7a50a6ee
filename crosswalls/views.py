"""Paintings as they are seen from elsewhere: forms of led, seen and stepped paintings."""

from crosswalls.forms import form_of, graph_of_steps
from crosswalls.renames import renamed


def seen_form(plan, form, way):
    """The form of the painting as it is seen from the room at the end of a shortest way from home."""
    for kind in way:
        form = seen_behind(plan, form, kind)
    return form


def seen_behind(plan, form, kind):
    """The form of the painting as it is seen from behind a door of home.

    With w the way of a room, a state is the row of the room at the end of kind + w,
    and beside it the row of the room w, as long as w may be crossed by this kind.
    """
    behind_state = lambda state, at, step: state_seen(plan, form, kind, state, at, step)
    states, nearer, after = graph_of_steps(plan, (row_of_door(plan, form, kind), 0), behind_state)
    return form_of([form[row][0] for row, _ in states], nearer, after)


def row_of_door(plan, form, kind):
    """The row of the room behind a door of home."""
    return form[0][2][plan.kinds.index(kind)]


def state_seen(plan, form, kind, state, at, step):
    """The state of seen_behind behind the door number at, of the kind step."""
    row, beside = state
    if beside is not None and step == kind:
        return (beside, None)
    if beside is not None and step in plan.across[kind]:
        return (form[row][2][at], form[beside][2][at])
    return (form[row][2][at], None)


def led_form(plan, form, home, renaming):
    """The form of the painting to which the motion with this home, a name, and this renaming leads."""
    places = [renaming.index(kind) for kind in plan.kinds]
    nearer = ["".join([kind for kind in plan.kinds if kind in renamed(plan, renaming, row[1])]) for row in form]
    after = [tuple([row[2][place] for place in places]) for row in form]
    turned = form_of([row[0] for row in form], nearer, after)
    return seen_form(plan, turned, home[::-1])


def through_form(plan, form, kind):
    """The form of the painting in which each room has the colour of the room behind its door of this kind.

    A state is the row of the room, and that of the room behind if this is nearer home.
    """
    place = plan.kinds.index(kind)
    behind_state = lambda state, at, step: state_through(plan, form, kind, state, at, step)
    states, nearer, after = graph_of_steps(plan, (0, None), behind_state)
    ends = [form[row][2][place] if back is None else back for row, back in states]
    return form_of([form[end][0] for end in ends], nearer, after)


def state_through(plan, form, kind, state, at, step):
    """The state of through_form behind the door number at, of the kind step."""
    row, back = state
    end = form[row][2][at]
    if step == kind:
        return (end, row)
    if back is not None and step in plan.across[kind]:
        return (end, form[back][2][at])
    return (end, None)


def graph_around(plan, form):
    """A graph of which each node tells the rows of the room and of the rooms behind all its doors.

    The result are the rows of the rooms, tuples with those of the rooms behind,
    and the two last parts of the graph.
    """
    behind_state = lambda state, at, step: state_around(plan, form, state, at, step)
    states, nearer, after = graph_of_steps(plan, (0,) + tuple([None for _ in plan.kinds]), behind_state)
    around = [
        tuple([end if back is None else back for end, back in zip(form[state[0]][2], state[1:])])
        for state in states
    ]
    return [state[0] for state in states], around, nearer, after


def state_around(plan, form, state, at, step):
    """The state of graph_around, a row and those behind the doors that lead nearer home, behind a door."""
    found = [form[state[0]][2][at]]
    for place, kind in enumerate(plan.kinds):
        back = state[place + 1]
        if place == at:
            found.append(state[0])
        elif back is not None and kind in plan.across[step]:
            found.append(form[back][2][at])
        else:
            found.append(None)
    return tuple(found)
