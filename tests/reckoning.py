"""Second reckonings of names, which share nothing with the package."""

from itertools import product


def words(kinds, longest):
    """All words of at most so many letters, shorter ones first, then by the alphabet."""
    return ["".join(letters) for many in range(longest + 1) for letters in product(sorted(kinds), repeat=many)]


def crossing_set(pairs):
    """Both orders of all pairs."""
    return {pair for pair in pairs} | {pair[::-1] for pair in pairs}


def neighbours(word, crossing):
    """The words that come of one exchange, or of taking out two equal neighbours."""
    for at in range(len(word) - 1):
        pair = word[at:at + 2]
        if pair[0] == pair[1]:
            yield word[:at] + word[at + 2:]
        elif pair in crossing:
            yield word[:at] + pair[::-1] + word[at + 2:]


def least_words(kinds, pairs, longest):
    """For each word the least one that it becomes, by steps through words of at most so many letters.

    Putting in two equal neighbours is taking them out, seen from the other side.
    """
    crossing = crossing_set(pairs)
    beside = {word: [] for word in words(kinds, longest)}
    for word in beside:
        for other in neighbours(word, crossing):
            beside[word].append(other)
            beside[other].append(word)
    least = {}
    for start in beside:
        waiting = [] if start in least else [start]
        while waiting:
            word = waiting.pop()
            if word not in least:
                least[word] = start
                waiting.extend(beside[word])
    return least


def turn(rows, crossing, kinds, kind):
    """Change the images of the roots as the reflection of this kind, done first, does."""
    for other in kinds:
        if other == kind or other + kind in crossing:
            continue
        rows[other] = [own + 2 * more for own, more in zip(rows[other], rows[kind])]
    rows[kind] = [-own for own in rows[kind]]


def name_by_roots(kinds, pairs, way):
    """The name of the room at the end of a way, by the reflections of the floor's roots.

    The walls of home that part it from a room are those whose roots the way
    back turns negative: the name begins with the least of them.
    """
    kinds = sorted(kinds)
    crossing = crossing_set(pairs)
    rows = {kind: [int(kind == other) for other in kinds] for kind in kinds}
    for kind in reversed(way):
        turn(rows, crossing, kinds, kind)
    name = []
    while True:
        first = next((kind for kind in kinds if min(rows[kind]) < 0), None)
        if first is None:
            return "".join(name)
        name.append(first)
        turn(rows, crossing, kinds, first)
