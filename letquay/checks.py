"""What counts as an integer, an ascending tuple and a place, wherever one is passed."""

BEYOND = 10 ** 60


def is_integer(value):
    """Whether the value is an integer of at most sixty digits; booleans are none."""
    return isinstance(value, int) and not isinstance(value, bool) and -BEYOND < value < BEYOND


def is_whole(value):
    """Whether the value is an integer from 0 on."""
    return is_integer(value) and value >= 0


def is_place(value):
    """Whether the value is a tuple of integers from 0 on."""
    return isinstance(value, tuple) and all([is_whole(number) for number in value])


def is_ascending(value):
    """Whether the value is a strictly ascending tuple of integers from 0 on."""
    return is_place(value) and all([low < high for low, high in zip(value, value[1:])])
