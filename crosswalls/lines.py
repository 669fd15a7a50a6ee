"""The lines of desks, and what they do to maps."""

from crosswalls.errors import InvalidLine, NameTaken, UnknownName
from crosswalls.lots import Half
from crosswalls.maps import Map
from crosswalls.motions import Motion
from crosswalls.paintings import Painting
from crosswalls.regions import is_word
from crosswalls.rooms import Room
from crosswalls.walls import Wall

# For each first word the sorts of the words behind it.
SORTS = {
    "map": ("word", "word"),
    "copy": ("word", "word"),
    "paint": ("word", "way", "word"),
    "wipe": ("word", "way"),
    "beyond": ("word", "way", "kind", "word"),
    "ball": ("word", "way", "digit", "word"),
    "move": ("word", "way"),
    "bar": ("word", "word", "kind", "word"),
    "free": ("word", "word", "kind", "word"),
    "drop": ("word",),
}


def words_of(plan, value):
    """The words of a line, ways as they are written; InvalidLine for any value that is no line."""
    if not isinstance(value, str):
        raise InvalidLine(value)
    words = value.split(" ")
    if words[0] not in SORTS or len(words) != len(SORTS[words[0]]) + 1:
        raise InvalidLine(value)
    for sort, word in zip(SORTS[words[0]], words[1:]):
        if not is_of_sort(plan, sort, word):
            raise InvalidLine(value)
    return words


def is_of_sort(plan, sort, word):
    """Whether a word of a line is what is expected."""
    if sort == "word":
        return is_word(word)
    if sort == "way":
        return word == "-" or (word != "" and word.strip(plan.kinds) == "")
    if sort == "kind":
        return len(word) == 1 and word in plan.kinds
    return len(word) == 1 and word in "0123456789"


def way_told(word):
    """The way for which a word stands."""
    return "" if word == "-" else word


def maps_after(plan, maps, line):
    """The maps, a dict by their names, when a line has been done."""
    words = words_of(plan, line)
    name = words[1]
    found = dict(maps)
    if words[0] == "map":
        check_new(maps, name)
        found[name] = Map(Painting.plain(plan, words[2]))
        return found
    if name not in maps:
        raise UnknownName(name)
    if words[0] == "copy":
        check_new(maps, words[2])
        found[words[2]] = maps[name].copied()
    elif words[0] == "drop":
        del found[name]
    else:
        found[name] = changed_map(plan, maps[name], words)
    return found


def check_new(maps, name):
    """Raise NameTaken for the name of a map."""
    if name in maps:
        raise NameTaken(name)


def changed_map(plan, before, words):
    """A copy of a map to which the words of a line have been done."""
    copy = before.copied()
    if words[0] == "bar":
        copy.bar(words[2], words[3], words[4])
        return copy
    if words[0] == "free":
        copy.free(words[2], words[3], words[4])
        return copy
    room = Room(plan, way_told(words[2]))
    if words[0] == "paint":
        copy[room] = words[3]
    elif words[0] == "wipe":
        copy.wipe(room)
    elif words[0] == "beyond":
        copy.fill(Painting.of_half(Half(Wall(room, words[3]), True)), words[4])
    elif words[0] == "ball":
        copy.fill(Painting.ball(room, int(words[3])), words[4])
    else:
        copy.move(Motion(plan, way_told(words[2])))
    return copy
