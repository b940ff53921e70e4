"""Elimination over integers: rows of integers stand for equations, which may be multiplied and taken from each other.

Each row that comes of this is brought to lowest terms at once, so that its integers stay as short as they can.
"""

from math import gcd

from loadorloose.numbers import lowest, number


def joined(row, factor, leader, pivot):
    """The row times the pivot less the leader times the factor, both of these divided by what divides them."""
    shared = gcd(pivot, factor)
    times_row = pivot // shared
    times_leader = factor // shared
    return [times_row * cell - times_leader * lead for cell, lead in zip(row, leader)]


def without(row, place):
    """The row as a new list without the cell at the place."""
    return row[:place] + row[place + 1:]


def reduced(rows, width):
    """The rows solved for as many of their first `width` columns as can be.

    The answer is the new rows, a dict from the columns that they are solved for to the positions of their rows, and the
    list of the other ones of the first columns. A column that is solved for has noughts in all rows but its own one.
    """
    cells = [lowest(row) for row in rows]
    spent = [False] * len(rows)
    bound = {}
    loose = []
    for column in range(width):
        at = smallest(cells, spent, column)
        if at is None:
            loose.append(column)
        else:
            spent[at] = True
            bound[column] = at
            cells = swept(cells, at, column)
    return cells, bound, loose


def smallest(cells, spent, column):
    """The position of the row, not yet spent, whose cell in the column is nearest to nought without being it."""
    best = None
    for k, row in enumerate(cells):
        if row[column] != 0 and not spent[k]:
            if best is None or abs(row[column]) < abs(cells[best][column]):
                best = k
    return best


def swept(cells, at, column):
    """The rows after the column was cleared from all others by the row `at`."""
    leader = cells[at]
    found = []
    for k, row in enumerate(cells):
        if k == at or row[column] == 0:
            found.append(row)
        else:
            found.append(lowest(joined(row, row[column], leader, leader[column])))
    return found


def solved(rows, sides):
    """The list of numbers that give with each row its side, or an empty list if not exactly one does so.

    There are as many rows as each row has integers.
    """
    width = len(rows)
    cells, bound, loose = reduced([[*row, side] for row, side in zip(rows, sides)], width)
    if loose:
        return []
    found = []
    for column in range(width):
        row = cells[bound[column]]
        found.append(number(row[width], row[column]))
    return found
