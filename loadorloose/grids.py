"""Grids of squares with braces: their frames, and whether these are stiff (points 21 and 22).

The rows of a grid are the places 0 .. r - 1 of its ways, and its columns are the places r .. r + c - 1.
"""

from loadorloose.reaching import reached


def grid_frame(r, c, braces):
    """The frame of a grid."""
    points = [(x, y) for y in range(r + 1) for x in range(c + 1)]
    bars = [(joint_at(c, x, y), joint_at(c, x + 1, y)) for y in range(r + 1) for x in range(c)]
    bars = bars + [(joint_at(c, x, y), joint_at(c, x, y + 1)) for y in range(r) for x in range(c + 1)]
    members = [(i, j, None, None) for i, j in bars] + [brace_member(c, brace) for brace in braces]
    return tuple(points), tuple(sorted(members, key=lambda member: (member[0], member[1]))), ()


def joint_at(c, x, y):
    """The number of the joint at a place."""
    return y * (c + 1) + x


def brace_member(c, brace):
    """The member of a brace."""
    row, column, kind = brace
    if kind == "down":
        return joint_at(c, column + 1, row), joint_at(c, column, row + 1), None, 0
    push = None if kind == "bar" else 0
    return joint_at(c, column, row), joint_at(c, column + 1, row + 1), None, push


def grid_stiff(r, c, braces):
    """Whether from each row and column ways lead to each other one."""
    return parted(r, c, braces) is None


def parted(r, c, braces):
    """Lists of rows and of columns from which no way leads to the others, or None if the grid is stiff."""
    ways = brace_ways(r, c, braces)
    for start in range(r + c):
        there = reached(ways, start)
        if len(there) < r + c:
            return [k for k in range(r) if k in there], [k for k in range(c) if r + k in there]
    return None


def brace_ways(r, c, braces):
    """For each row and column the list of those to which a brace leads."""
    found = [[] for _ in range(r + c)]
    for row, column, kind in braces:
        if kind != "down":
            found[row].append(r + column)
        if kind != "up":
            found[r + column].append(row)
    return found


def grid_motion(r, c, braces):
    """An allowed motion of the grid frame that is not rigid, or None if it is stiff.

    As no side grows, the upright sides of one row turn alike, and so do the level sides of one column. A brace between
    a row and a column grows or shrinks if these two do not turn alike; a cable that leads from one to the other lets
    the other one turn less. So all may turn by 1 but those from which no way leads to the others.
    """
    apart = parted(r, c, braces)
    if apart is None:
        return None
    rows, columns = apart
    shifts = [0]
    for row in range(r):
        shifts.append(shifts[row] - (0 if row in rows else 1))
    lifts = [0]
    for column in range(c):
        lifts.append(lifts[column] + (0 if column in columns else 1))
    return tuple([(shifts[y], lifts[x]) for y in range(r + 1) for x in range(c + 1)])
