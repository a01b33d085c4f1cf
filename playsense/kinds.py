"""Kinds, which are tuples of kinds, and their places.

A kind may be nested deeper than calls can be, so nothing here calls itself.
"""


def is_kind(value):
    """Whether a value is a kind, whatever its size."""
    pending = [value]
    while pending:
        part = pending.pop()
        if not isinstance(part, tuple):
            return False
        pending.extend(part)
    return True


def places(kind):
    """A rising tuple of the places of a kind."""
    found = []
    pending = [((), kind)]
    while pending:
        place, part = pending.pop()
        found.append(place)
        inner = [(place + (number,), argument) for number, argument in enumerate(part)]
        # The last one in is the first one out, and the first argument's places come first.
        pending.extend(inner[::-1])
    return tuple(found)


def kind_at(kind, place):
    """The kind at a place of a kind; None if there is no such place."""
    for number in place:
        if not 0 <= number < len(kind):
            return None
        kind = kind[number]
    return kind


def depth(kind):
    """0 for the kind of answers, else one more than the greatest depth of an argument."""
    deepest = 0
    pending = [(kind, 0)]
    while pending:
        part, level = pending.pop()
        deepest = max(deepest, level)
        pending.extend([(argument, level + 1) for argument in part])
    return deepest
