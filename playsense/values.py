"""Whether a value, whatever it is, has a plain form that larger shapes are made of."""


def is_whole(value):
    """Whether a value is a whole number from 0 on; True and False are none."""
    return isinstance(value, int) and not isinstance(value, bool) and value >= 0


def is_answer(value):
    """Whether a value is the number 0 or 1."""
    return is_whole(value) and value <= 1


def is_tuple_of(value, many):
    """Whether a value is a tuple of so many items."""
    return isinstance(value, tuple) and len(value) == many
