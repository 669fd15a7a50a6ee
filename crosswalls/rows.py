"""Which rooms have which rows of a form: how many there are, the first ones, and the nearest ones.

`wanted` tells for each row whether its rooms are asked for.
"""

from crosswalls.names import barred_after
from crosswalls.ways import those_across


def rows_with(form, colour):
    """Which rows have a colour."""
    return [row[0] == colour for row in form]


def numbers_at(form, distance):
    """For each row the number of its rooms at a distance from home."""
    numbers = [1] + [0] * (len(form) - 1)
    for _ in range(distance):
        numbers = numbers_farther(form, numbers)
    return numbers


def numbers_farther(form, numbers):
    """For each row the number of its rooms one door farther from home than those that are counted."""
    found = [0] * len(form)
    for number, row in zip(numbers, form):
        if number > 0:
            for end in row[2]:
                if end is not None:
                    found[end] = found[end] + number
    # Each room is found from behind each of its doors that lead nearer home.
    return [number // max(1, len(row[1])) for number, row in zip(found, form)]


def many_rooms_with(form, wanted):
    """The number of the rooms that are asked for, or None if there are endlessly many."""
    steps = steps_to(form, wanted)
    numbers = [1] + [0] * (len(form) - 1)
    found = 0
    # A way through more rows than there are comes to one of them again.
    for _ in range(len(form)):
        found = found + sum([number for number, asked in zip(numbers, wanted) if asked])
        numbers = numbers_farther(form, numbers)
        numbers = [number if step is not None else 0 for number, step in zip(numbers, steps)]
    return found if sum(numbers) == 0 else None


def steps_to(form, wanted):
    """For each row the least number of doors, each farther from home, to a room that is asked for, or None."""
    before = [[] for _ in form]
    for number, row in enumerate(form):
        for end in row[2]:
            if end is not None:
                before[end].append(number)
    steps = [0 if asked else None for asked in wanted]
    layer = [number for number, asked in enumerate(wanted) if asked]
    step = 0
    while layer:
        step += 1
        farther = []
        for end in layer:
            for number in before[end]:
                if steps[number] is None:
                    steps[number] = step
                    farther.append(number)
        layer = farther
    return steps


def nearest_step(plan, form, wanted, name):
    """The least distance from the room with this name to one that is asked for, or None.

    A shortest way goes nearer home first, to a room of which the name has the
    letters that are kept, and then farther from home. For each row, and the
    letters that may still be kept, it is told how many have been kept at most.
    """
    kept = {(0, plan.kinds): 0}
    for kind in name:
        place = plan.kinds.index(kind)
        farther = {}
        for row, loose in kept:
            many = kept[row, loose]
            if kind in loose:
                with_it = (form[row][2][place], loose)
                farther[with_it] = max(int(farther.get(with_it, 0)), many + 1)
            without = (row, those_across(plan, loose, kind))
            farther[without] = max(int(farther.get(without, 0)), many)
        kept = farther
    steps = steps_to(form, wanted)
    found = [len(name) - kept[row, loose] + steps[row] for row, loose in kept if steps[row] is not None]
    return min([int(number) for number in found]) if found else None


def first_names(plan, form):
    """For each row the name of its first room."""
    found = {0: ""}
    for row in range(len(form)):
        for kind, end in zip(plan.kinds, form[row][2]):
            if end is not None and end not in found:
                found[end] = found[row] + kind
    return found


def graph_of_names(plan, form):
    """How names go on: for each node the nodes behind, by kinds; and the rows of the nodes.

    A node tells the row of a room and the kinds with which its name does not go
    on; the node 0 is that of home.
    """
    barred = {}
    nodes = [(0, "")]
    numbers = {(0, ""): 0}
    after = []
    while len(after) < len(nodes):
        row, shut = nodes[len(after)]
        ends = {}
        for kind, end in zip(plan.kinds, form[row][2]):
            if kind not in shut:
                if (shut, kind) not in barred:
                    barred[shut, kind] = barred_after(plan, shut, kind)
                node = (end, barred[shut, kind])
                if node not in numbers:
                    numbers[node] = len(nodes)
                    nodes.append(node)
                ends[kind] = numbers[node]
        after.append(ends)
    return after, [row for row, _ in nodes]


def names_with(plan, form, wanted, most):
    """The names of the first rooms that are asked for, ascending, at most so many."""
    after, rows = graph_of_names(plan, form)
    # levels[many] tells of which nodes some name goes on by so many letters to a room that is asked for.
    levels = [[wanted[row] for row in rows]]
    found = []
    while len(found) < most and any(levels[-1]):
        if levels[-1][0]:
            found = found + names_through(after, levels, most - len(found))
        levels.append([any([levels[-1][ends[kind]] for kind in ends]) for ends in after])
    return found


def names_through(after, levels, most):
    """The first names, at most so many, that have as many letters as the last one of the levels tells."""
    found = []
    waiting = [("", 0)]
    while waiting and len(found) < most:
        name, node = waiting.pop()
        left = len(levels) - 1 - len(name)
        if left == 0:
            found.append(name)
        else:
            ends = after[node]
            for kind in list(ends)[::-1]:
                if levels[left - 1][ends[kind]]:
                    waiting.append((name + kind, ends[kind]))
    return found
