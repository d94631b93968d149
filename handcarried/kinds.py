"""Plain kinds of values: integers, tuples and texts, within bounds."""


def is_whole(thing):
    """Whether a thing is an integer; True and False are none."""
    return isinstance(thing, int) and not isinstance(thing, bool)


def is_within(thing, least, most):
    """Whether a thing is an integer from least to most."""
    return is_whole(thing) and least <= thing <= most


def is_tuple(thing):
    """Whether a thing is a tuple, or a list, which counts as one."""
    return isinstance(thing, (tuple, list))


def is_tuple_of(thing, least, most):
    """Whether a thing is a tuple of least to most things."""
    return is_tuple(thing) and least <= len(thing) <= most


def is_text(thing, least, most, characters):
    """Whether a thing is a string of least to most of these characters."""
    if not isinstance(thing, str) or not least <= len(thing) <= most:
        return False
    return all([character in characters for character in thing])


def is_ascending(things):
    """Whether each thing is greater than the one ahead of it."""
    return all([things[k] < things[k + 1] for k in range(len(things) - 1)])


def as_tuples(thing):
    """The thing with tuples in the place of its lists, at any depth."""
    if not is_tuple(thing):
        return thing
    return tuple([as_tuples(inner) for inner in thing])


def first_double(names):
    """The first name that stands further ahead, too; None if there is none."""
    seen = set()
    for name in names:
        if name in seen:
            return name
        seen.add(name)
    return None
