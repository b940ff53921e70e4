"""Programs over motions: their rows, and the motions that their answers tell.

The first columns of such a program stand for a motion. As no amount in a program is below nought, each free coordinate
is the amount of its own column less that of one column more, the last of these, in which all of them share.

The other columns stand for *ways*, tuples (k, sign): a way with the sign 1 is what the member k grows, one with the
sign -1 is what it shrinks. The row of a member says that its growth is what it grows less what it shrinks; so a member
without one of its ways cannot move in this way. The numbers for these rows that come with an answer are tensions.
"""

from loadorloose.growths import flat, free_places, growth_rows, paired, spread
from loadorloose.numbers import brought, minus


def limited_ways(members):
    """The ways in which members give way at a limit, and the list of these limits."""
    ways = []
    limits = []
    for k, (_, _, pull, push) in enumerate(members):
        for sign, limit in ((1, pull), (-1, push)):
            if limit is not None:
                ways.append((k, sign))
                limits.append(limit)
    return ways, limits


def motion_cells(frame, coordinates):
    """The cells, in the columns of a motion, of a row that has these coordinates."""
    cells = [coordinates[place] for place in free_places(frame)]
    return cells + [-sum(cells)]


def resting_cells(frame):
    """The cells, in the columns of a motion, of a row that has nothing to do with it."""
    return [0] * (len(free_places(frame)) + 1)


def load_cells(frame, load):
    """The cells, in the columns of a motion, of a row that gives the work of the load."""
    return motion_cells(frame, flat(load))


def member_rows(frame, ways):
    """The rows of all members, over the columns of a motion and those of the ways."""
    found = []
    for k, row in enumerate(growth_rows(frame)):
        found.append(motion_cells(frame, row) + [-sign if own == k else 0 for own, sign in ways])
    return found


def coordinates_of(frame, amounts):
    """The list of the coordinates, numbers, of the motion with these amounts in its columns."""
    width = len(free_places(frame))
    return spread(frame, [minus(amount, amounts[width]) for amount in amounts[:width]], (0, 1))


def number_motion(frame, amounts):
    """The motion, one of numbers, with these amounts in its columns."""
    return paired(coordinates_of(frame, amounts))


def lowest_motion(frame, amounts):
    """This motion multiplied such that it is one of vectors in lowest terms."""
    return paired(brought(coordinates_of(frame, amounts)))
