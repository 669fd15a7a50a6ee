"""Polynomials: lists of integers, the coefficient of x ** 0 first.

Quotients are taken by polynomials that begin with 1 alone, so all numbers stay whole.
"""


def cut(row):
    """The coefficients without noughts at the end."""
    many = len(row)
    while many and row[many - 1] == 0:
        many -= 1
    return list(row[:many])


def sum_of(one, other):
    """The sum of two polynomials."""
    many = max(len(one), len(other))
    longer = list(one) + [0] * (many - len(one))
    return [number + other[at] if at < len(other) else number for at, number in enumerate(longer)]


def times(one, other):
    """The product of two polynomials."""
    found = [0] * (len(one) + len(other))
    for at, number in enumerate(one):
        if number != 0:
            for place, factor in enumerate(other):
                found[at + place] = found[at + place] + number * factor
    return found


def shifted(row, many):
    """The polynomial times x ** many."""
    return [0] * many + list(row)


def scaled(row, factor):
    """The polynomial times an integer."""
    return [number * factor for number in row]


def grown(many):
    """The coefficients of (1 + x) ** many."""
    row = [1]
    for _ in range(many):
        row = sum_of(row, shifted(row, 1))
    return row


def series(above, below, many):
    """The first coefficients of the series above / below, so many."""
    found = []
    for at in range(many):
        number = above[at] if at < len(above) else 0
        for back in range(1, min(len(below), at + 1)):
            number = number - below[back] * found[at - back]
        found.append(number)
    return found


def quotient(above, below):
    """The polynomial above / below, or None if this goes on without end."""
    found = series(above, below, len(above))
    many = max(0, len(above) - len(below) + 1)
    if any([number != 0 for number in found[many:]]):
        return None
    return found[:many]


def turned(row):
    """The polynomial with -x in place of x."""
    return [number if at & 1 == 0 else -number for at, number in enumerate(row)]


def far_coefficient(above, below, n, modulo):
    """The coefficient of x ** n in the series above / below, or the rest of it; n may have any size.

    Both are multiplied by below(-x): then only even powers are left below,
    and of those above only the ones that are even or odd as n is. So n is halved.
    """
    while n > 0:
        other = turned(below)
        above = halved(times(above, other), n & 1, modulo)
        below = halved(times(below, other), 0, modulo)
        n = n >> 1
    return rest(above[0], modulo) if len(above) > 0 else 0


def halved(row, first, modulo):
    """The rests of every second coefficient from the first one on, without noughts at the end."""
    return cut([rest(number, modulo) for number in row[first::2]])


def rest(number, modulo):
    """The rest of a number by a modulo, or the number itself if there is none."""
    return number if modulo is None else number % modulo
