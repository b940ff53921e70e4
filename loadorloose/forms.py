"""Whether values are of the kinds that the points tell for the parts of an answer."""

from math import gcd


def is_tuple(values, count):
    """Whether this is a tuple with so many items."""
    return isinstance(values, tuple) and len(values) == count


def are_integers(values, count):
    """Whether this is a tuple of so many integers."""
    return is_tuple(values, count) and all([isinstance(value, int) for value in values])


def is_number(value):
    """Whether this is a number as point 2 writes it."""
    return are_integers(value, 2) and value[1] >= 1 and gcd(value[0], value[1]) == 1


def are_numbers(values, count):
    """Whether this is a tuple of so many numbers."""
    return is_tuple(values, count) and all([is_number(value) for value in values])


def is_motion(frame, values):
    """Whether this is a motion of vectors, with noughts at the pins."""
    points, _, pins = frame
    if not is_tuple(values, len(points)) or not all([are_integers(value, 2) for value in values]):
        return False
    return all([values[pin] == (0, 0) for pin in pins])


def is_number_motion(frame, values):
    """Whether this is a motion of numbers, with noughts at the pins."""
    points, _, pins = frame
    if not is_tuple(values, len(points)) or not all([are_numbers(value, 2) for value in values]):
        return False
    return all([values[pin] == ((0, 1), (0, 1)) for pin in pins])
