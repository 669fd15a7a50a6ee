"""Forms of paintings: one row for each outlook of a room.

A row is (colour, kinds, next) as the document tells it. A form comes of a graph:
nodes that stand for rooms, home for the node 0. For each node there are a
colour, the string of the kinds whose doors lead nearer home, and a tuple of the
nodes behind its doors, with None for those kinds.
"""


def nearer_rows(plan):
    """The rows of a painting of one colour, without it: (kinds, next) for each set of kinds that lead nearer home."""
    found = [""]
    numbers = {"": 0}
    rows = []
    while len(rows) < len(found):
        nearer = found[len(rows)]
        row = []
        for kind in plan.kinds:
            if kind in nearer:
                row.append(None)
            else:
                farther = nearer_behind(plan, nearer, kind)
                if farther not in numbers:
                    numbers[farther] = len(found)
                    found.append(farther)
                row.append(numbers[farther])
        rows.append((nearer, tuple(row)))
    return rows


def nearer_behind(plan, nearer, kind):
    """The kinds that lead nearer home behind a door that leads farther, if these do ahead of it."""
    return "".join([
        other for other in plan.kinds if other == kind or (other in nearer and other in plan.across[kind])
    ])


def graph_of_tables(plan, tables):
    """The states of the nodes, the kinds that lead nearer home, and the nodes behind, for states told by tables."""
    rows = nearer_rows(plan)
    many = len(tables[0]) if len(tables) > 0 else 1
    ends = [tuple([table[state] for table in tables]) for state in range(many)]
    nodes, after = graph_of_pairs(ends, [row[1] for row in rows])
    return [state for state, _ in nodes], [rows[row][0] for _, row in nodes], after


def graph_of_steps(plan, start, behind_state):
    """The same for states of which behind_state(state, at, kind) tells the one behind the door number at."""
    rows = nearer_rows(plan)
    nodes = [(start, 0)]
    numbers = {(start, 0): 0}
    after = []
    while len(after) < len(nodes):
        state, row = nodes[len(after)]
        ends = []
        for at, kind in enumerate(plan.kinds):
            next_row = rows[row][1][at]
            if next_row is None:
                ends.append(None)
            else:
                node = (behind_state(state, at, kind), next_row)
                if node not in numbers:
                    numbers[node] = len(nodes)
                    nodes.append(node)
                ends.append(numbers[node])
        after.append(tuple(ends))
    return [state for state, _ in nodes], [rows[row][0] for _, row in nodes], after


def graph_of_both(one, other):
    """The pairs of rows, one of each form of one plan, that rooms have, and the nodes behind."""
    return graph_of_pairs([row[2] for row in one], [row[2] for row in other])


def graph_of_pairs(ends, other_ends):
    """The pairs of two sorts of places, (0, 0) first, to which doors lead, and for each the nodes behind its doors.

    For each place its ends are the places behind its doors. Doors that have None
    as their other end are not gone through.
    """
    nodes = [(0, 0)]
    numbers = {(0, 0): 0}
    after = []
    while len(after) < len(nodes):
        own, strange = nodes[len(after)]
        found = []
        for node in zip(ends[own], other_ends[strange]):
            if node[1] is None:
                found.append(None)
            else:
                if node not in numbers:
                    numbers[node] = len(nodes)
                    nodes.append(node)
                found.append(numbers[node])
        after.append(tuple(found))
    return nodes, after


def form_of(colours, nearer, after):
    """The form that comes of a graph: rows for its outlooks, numbered as they are found."""
    outlooks = outlooks_of(colours, nearer, after)
    nodes = [0]
    numbers = {outlooks[0]: 0}
    rows = []
    while len(rows) < len(nodes):
        node = nodes[len(rows)]
        ends = []
        for end in after[node]:
            if end is None:
                ends.append(None)
            else:
                outlook = outlooks[end]
                if outlook not in numbers:
                    numbers[outlook] = len(nodes)
                    nodes.append(end)
                ends.append(numbers[outlook])
        rows.append((colours[node], nearer[node], tuple(ends)))
    return tuple(rows)


def outlooks_of(colours, nearer, after):
    """A number for each node, the same for two exactly if their rooms have the same outlook."""
    numbers = numbers_of([(colour, kinds) for colour, kinds in zip(colours, nearer)])
    many = 0
    while len(set(numbers)) > many:
        many = len(set(numbers))
        signs = []
        for number, ends in zip(numbers, after):
            signs.append((number,) + tuple([-1 if end is None else numbers[end] for end in ends]))
        numbers = numbers_of(signs)
    return numbers


def numbers_of(signs):
    """A number for each sign, the same for equal ones."""
    numbers = {}
    found = []
    for sign in signs:
        if sign not in numbers:
            numbers[sign] = len(numbers)
        found.append(numbers[sign])
    return found


def form_of_both(one, other, colours):
    """The form of the painting that gives each room the colour told, in a dict, for its colours in two others."""
    nodes, after = graph_of_both(one, other)
    told = [colours[one[own][0], other[strange][0]] for own, strange in nodes]
    return form_of(told, [one[own][1] for own, _ in nodes], after)


def recoloured(form, colours):
    """The form of the painting in which each row of a form gets the colour of this list."""
    return form_of(colours, [row[1] for row in form], [row[2] for row in form])


def row_behind(plan, form, row, way):
    """The row of the room to which a way leads, each door of it farther from home, from a room of a row."""
    for kind in way:
        row = form[row][2][plan.kinds.index(kind)]
    return row


def colours_of(form):
    """The colours of a form, each once, in the order of the rows."""
    found = []
    for row in form:
        if row[0] not in found:
            found.append(row[0])
    return found
