"""Growths as rows of integers, one integer for each coordinate of a motion.

The coordinates of a motion are those of its vectors, in order: x of the joint 0, y of the joint 0, x of the joint 1, ..
Those of joints that are not pinned are *free*.
"""


def growth_row(points, i, j):
    """What the growth of a member between the joints i and j is in each of the coordinates."""
    across = points[i][0] - points[j][0]
    up = points[i][1] - points[j][1]
    row = [0] * (2 * len(points))
    row[2 * i] = across
    row[2 * i + 1] = up
    row[2 * j] = -across
    row[2 * j + 1] = -up
    return row


def growth_rows(frame):
    """The rows of the growths of all members."""
    points, members, _ = frame
    return [growth_row(points, member[0], member[1]) for member in members]


def free_places(frame):
    """The positions of the free coordinates."""
    points, _, pins = frame
    return [place for place in range(2 * len(points)) if place // 2 not in pins]


def flat(vectors):
    """The list of the coordinates of vectors."""
    return [n for vector in vectors for n in vector]


def paired(coordinates):
    """The tuple of the vectors that have these coordinates."""
    return tuple([(coordinates[k], coordinates[k + 1]) for k in range(0, len(coordinates), 2)])


def spread(frame, values, nought):
    """The list of all coordinates of a motion with these values in the free ones, and nought in the others."""
    found = [nought] * (2 * len(frame[0]))
    for place, value in zip(free_places(frame), values):
        found[place] = value
    return found
