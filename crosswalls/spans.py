"""Sets of integers that come again by a period, from some integer on and up to some other one.

Such a set is told by a cycle, by ascending integers at which spans start, and by
a mask for each span, that before the first start included: bit k of a mask is
set if the integers of the span with the rest k by the cycle are members.
"""


def full_mask(cycle):
    """The mask of all integers."""
    return (1 << cycle) - 1


def mask_of(cycle, numbers):
    """The mask of the rests of some integers."""
    mask = 0
    for number in numbers:
        mask = mask | 1 << (number % cycle)
    return mask


def widened(mask, cycle, wider):
    """The mask of the same integers by a multiple of the cycle."""
    return mask * (full_mask(wider) // full_mask(cycle))


def turned_mask(mask, cycle, number):
    """The mask of the integers that are less by this number."""
    rest = number % cycle
    return (mask >> rest) | (mask & full_mask(rest)) << (cycle - rest)


def first_from(mask, cycle, low):
    """The least integer, not below low, with a rest of the mask, or None."""
    bits = turned_mask(mask, cycle, low)
    if bits == 0:
        return None
    return low + (bits & -bits).bit_length() - 1


def last_to(mask, cycle, high):
    """The greatest integer, not above high, with a rest of the mask, or None."""
    bits = turned_mask(mask, cycle, high + 1)
    if bits == 0:
        return None
    return high + bits.bit_length() - cycle


def many_bits(mask):
    """How many bits of a mask are set."""
    bits = f"{mask:b}"
    return bits.count("1")


def many_between(mask, cycle, low, high):
    """How many integers from low to high - 1 have a rest of the mask."""
    if high <= low:
        return 0
    laps, left = divmod(high - low, cycle)
    return laps * many_bits(mask) + many_bits(turned_mask(mask, cycle, low) & full_mask(left))


def span_at(starts, number):
    """The place of the span in which a number is."""
    low = 0
    high = len(starts)
    while low < high:
        between = (low + high) // 2
        if starts[between] <= number:
            low = between + 1
        else:
            high = between
    return low


def masks_between(told, starts, cycle):
    """The masks of a set, told as (cycle, starts, masks), by more starts and a wider cycle."""
    own_cycle, own_starts, own_masks = told
    places = [0] + [span_at(own_starts, start) for start in starts]
    wide = [widened(mask, own_cycle, cycle) for mask in own_masks]
    return [wide[place] for place in places]


def mixed(one, other, kept):
    """Of two masks the bits of both, of the one alone and of the other alone, as far as kept tells to take them."""
    both, own, strange = kept
    found = one & other if both else 0
    if own:
        found = found | one & ~other
    if strange:
        found = found | other & ~one
    return found


def joined_starts(one, other):
    """Two lists of starts as one."""
    return sorted(set([int(start) for start in one + other]))


def without_repeats(cycle, starts, masks):
    """The same set, told without the starts at which nothing changes."""
    places = [at for at in range(len(starts)) if masks[at] != masks[at + 1]]
    return cycle, [starts[at] for at in places], masks[:1] + [masks[at + 1] for at in places]


def least_cycle(cycle, masks):
    """The least cycle by which all the masks come again."""
    for shorter in range(1, cycle):
        if cycle % shorter == 0 and all([is_repeated(mask, shorter, cycle) for mask in masks]):
            return shorter
    return cycle


def is_repeated(mask, shorter, cycle):
    """Whether a mask comes again by a part of its cycle."""
    return widened(mask & full_mask(shorter), shorter, cycle) == mask


def told_by(first, flags, cycle):
    """The set whose members from the integer first on are told by flags.

    The flags at both ends, one for each integer of a cycle, go on by this cycle.
    """
    many = len(flags)
    low = cycle
    while low < many and flags[low] == flags[low - cycle]:
        low += 1
    high = max(int(low), many - cycle)
    while high > low and flags[high - 1] == flags[high - 1 + cycle]:
        high -= 1
    ends = [
        mask_of(cycle, [first + at for at in range(cycle) if flags[at]]),
        mask_of(cycle, [first + at for at in range(many - cycle, many) if flags[at]]),
    ]
    shorter = least_cycle(cycle, ends)
    ends = [end & full_mask(shorter) for end in ends]
    between = [full_mask(shorter) if flags[at] else 0 for at in range(low, high)]
    starts = [first + at for at in range(low, high + 1)]
    return without_repeats(shorter, starts, ends[:1] + between + ends[1:])
