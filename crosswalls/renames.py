"""Renamings: strings with the image of each kind, in the order of the kinds."""

from crosswalls.errors import InvalidRenaming
from crosswalls.plans import fits


def is_renaming(plan, value):
    """Whether any value is a renaming of the plan."""
    if not isinstance(value, str) or len(value) != len(plan.kinds) or value.strip(plan.kinds):
        return False
    return all([fits(plan, value[:at], image) for at, image in enumerate(value)])


def check_renaming(plan, value):
    """Raise InvalidRenaming for any value that is no renaming of the plan."""
    if not is_renaming(plan, value):
        raise InvalidRenaming(value)


def chosen_renaming(plan, value):
    """The renaming for which a value stands: None stands for that in which each kind is its own image."""
    if value is None:
        return plan.kinds
    check_renaming(plan, value)
    return value


def renamed(plan, renaming, way):
    """A way with the image of each of its letters."""
    if renaming == plan.kinds:
        return way
    images = {kind: image for kind, image in zip(plan.kinds, renaming)}
    return "".join([images[kind] for kind in way])


def turned_back(plan, renaming):
    """The renaming that gives each image its kind."""
    return "".join([plan.kinds[renaming.index(kind)] for kind in plan.kinds])


def round_of(plan, renaming, kind):
    """A kind, its image, the image of that, and so on, each once."""
    found = kind
    image = renamed(plan, renaming, kind)
    while image != kind:
        found = found + image
        image = renamed(plan, renaming, image)
    return found


def renaming_order(plan, renaming):
    """How often a renaming must be done until each kind is its own image again."""
    images = renamed(plan, renaming, plan.kinds)
    many = 1
    while images != plan.kinds:
        images = renamed(plan, renaming, images)
        many += 1
    return many


def renaming_power(plan, renaming, many):
    """The renaming that is done so many times, 0 or more."""
    images = plan.kinds
    for _ in range(many):
        images = renamed(plan, renaming, images)
    return images
