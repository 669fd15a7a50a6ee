"""Tables: for each kind a list that tells for each place, by its number, where the door of this kind leads."""

from crosswalls.checks import is_integer
from crosswalls.errors import BadTables, InvalidTable, NotExchanged


def check_shape(plan, tables, many):
    """Raise BadTables for any value that has not for each kind a list of so many integers.

    None as their number stands for any, of at least 1, that is the same for all lists.
    """
    if not isinstance(tables, (list, tuple)) or len(tables) != len(plan.kinds):
        raise BadTables(tables)
    for table in tables:
        if not isinstance(table, (list, tuple)) or len(table) == 0 or len(table) != len(tables[0]):
            raise BadTables(tables)
        if many is not None and len(table) != many:
            raise BadTables(tables)
        if not all([is_integer(place) for place in table]):
            raise BadTables(tables)


def check_entries(plan, tables):
    """Raise InvalidTable for the first entry that is no place."""
    for kind, table in zip(plan.kinds, tables):
        for place, other in enumerate(table):
            if not 0 <= other < len(table):
                raise InvalidTable(kind, place)


def check_leading_back(plan, tables):
    """Raise InvalidTable for the first entry that is no place or does not lead back."""
    for kind, table in zip(plan.kinds, tables):
        for place, other in enumerate(table):
            if not 0 <= other < len(table) or table[other] != place:
                raise InvalidTable(kind, place)


def check_exchanged(plan, tables):
    """Raise NotExchanged for the first place from which two crossing doors lead apart in their two orders."""
    by_kind = {kind: table for kind, table in zip(plan.kinds, tables)}
    for place in range(len(tables[0]) if len(tables) > 0 else 0):
        for first, second in plan.pairs:
            one = by_kind[first]
            other = by_kind[second]
            if one[other[place]] != other[one[place]]:
                raise NotExchanged(place, first, second)


def found_order(tables, first):
    """The places in the order in which they are found from the first one."""
    order = [first]
    seen = {first: True}
    at = 0
    while at < len(order):
        for table in tables:
            other = table[order[at]]
            if other not in seen:
                seen[other] = True
                order.append(other)
        at += 1
    return order


def numbered(tables, order):
    """The tables of the places in an order, by their numbers in it."""
    numbers = {place: number for number, place in enumerate(order)}
    return tuple([tuple([numbers[table[place]] for place in order]) for table in tables])
