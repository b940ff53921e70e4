"""How far a load may grow (point 12)."""

from loadorloose.carrying import carry
from loadorloose.frames import resistance, work
from loadorloose.numbers import number, over


def greatest(frame, load):
    """("most", t, tensions, motion) with the greatest factor t, or ("any", tensions) if there is none."""
    word, found = carry(with_limits_times(frame, 0), load)
    if word == "tensions":
        return "any", found
    # Each motion bounds the factor, and the bound falls until the load times the bound is carried. This has an end, as
    # all the motions come of programs with the same rows, which have but so many.
    while word == "motion":
        motion = found
        factor = number(resistance(frame, motion), work(load, motion))
        word, found = carry_times(frame, load, factor)
    return "most", factor, found, motion


def carry_times(frame, load, factor):
    """What `carry` tells of the load times the factor."""
    n, d = factor
    word, found = carry(with_limits_times(frame, d), tuple([(n * x, n * y) for x, y in load]))
    if word == "tensions":
        found = tuple([over(tension, (d, 1)) for tension in found])
    return word, found


def with_limits_times(frame, times):
    """The frame with all its limits multiplied by an integer."""
    points, members, pins = frame
    found = [(i, j, limit_times(pull, times), limit_times(push, times)) for i, j, pull, push in members]
    return points, tuple(found), pins


def limit_times(limit, times):
    """The limit multiplied by an integer; None stays."""
    return None if limit is None else limit * times
