"""Frames: their motions, the work of loads, and tensions that carry them (points 6 to 10)."""

from loadorloose.numbers import dotted, minus, plus, summed, times

NOUGHT = (0, 1)


def growth(frame, k, motion):
    """The growth of the member k in a motion: an integer for one of vectors, a number for one of numbers."""
    points, members, _ = frame
    i, j = members[k][:2]
    x = points[i][0] - points[j][0]
    y = points[i][1] - points[j][1]
    v = motion[i]
    w = motion[j]
    if is_of_numbers(motion):
        return dotted((x, y), (minus(v[0], w[0]), minus(v[1], w[1])))
    return x * (v[0] - w[0]) + y * (v[1] - w[1])


def is_of_numbers(motion):
    """Whether a motion of at least one joint is one of numbers, not of vectors."""
    return isinstance(motion[0][0], tuple)


def is_allowed(frame, motion):
    """Whether no member without a limit of its pull grows, and none without a limit of its push shrinks."""
    for k, (_, _, pull, push) in enumerate(frame[1]):
        grown = growth(frame, k, motion)
        if (grown > 0 and pull is None) or (grown < 0 and push is None):
            return False
    return True


def resistance(frame, motion):
    """The resistance of an allowed motion of vectors."""
    total = 0
    for k, (_, _, pull, push) in enumerate(frame[1]):
        grown = growth(frame, k, motion)
        if grown > 0:
            total += pull * grown
        elif grown < 0:
            total -= push * grown
    return total


def work(load, motion):
    """The work of a load in a motion: an integer for one of vectors, a number for one of numbers."""
    if not motion:
        return 0
    if not is_of_numbers(motion):
        return sum([f[0] * v[0] + f[1] * v[1] for f, v in zip(load, motion)])
    return summed([dotted(force, velocity) for force, velocity in zip(load, motion)])


def missing(frame, load, tensions):
    """For each joint the tuple of two numbers that its force of the load and those of its members are together."""
    points, members, _ = frame
    found = [((x, 1), (y, 1)) for x, y in load]
    for (i, j, _, _), tension in zip(members, tensions):
        across = times((points[j][0] - points[i][0], 1), tension)
        up = times((points[j][1] - points[i][1], 1), tension)
        found[i] = (plus(found[i][0], across), plus(found[i][1], up))
        found[j] = (minus(found[j][0], across), minus(found[j][1], up))
    return found


def carries(frame, load, tensions):
    """Whether tensions are within the limits and carry a load."""
    return are_within(frame[1], tensions) and is_met(frame, missing(frame, load, tensions))


def are_within(members, tensions):
    """Whether each tension is within the limits of its member."""
    return all([is_within(tension, pull, push) for (_, _, pull, push), tension in zip(members, tensions)])


def is_within(tension, pull, push):
    """Whether a tension is not above the pull, and not below the push with the other sign, where there is a limit."""
    n, d = tension
    if pull is not None and n > pull * d:
        return False
    return push is None or n >= -push * d


def is_met(frame, lacking):
    """Whether what is missing is nought at each joint that is not pinned."""
    return all([lack == (NOUGHT, NOUGHT) for joint, lack in enumerate(lacking) if joint not in frame[2]])


def reactions(frame, load, tensions):
    """The tuple of the reactions, tuples of two numbers, of the pins in order."""
    lacking = missing(frame, load, tensions)
    return tuple([(minus(NOUGHT, lacking[pin][0]), minus(NOUGHT, lacking[pin][1])) for pin in frame[2]])
