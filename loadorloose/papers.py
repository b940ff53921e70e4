"""The answers of point 5, reckoned exactly from the basis in which the simplex method ended.

If the basis was but a guess, its columns may settle nothing. The answer is then wrong, as one from any other wrong
guess is, and `shows` tells so.
"""

from loadorloose.sweeping import solved
from loadorloose.tables import filler, is_filler


def paper(rows, sides, gains, case):
    """The answer for the case that `settled` tells."""
    word, basis, growing = case
    columns = [column_of(rows, sides, name) for name in basis]
    if word == "none":
        return word, shares(columns, [-1 if is_filler(name) else 0 for name in basis])
    fit = amounts(columns, sides, basis, gains)
    if word == "any":
        taken = [-row[growing] for row in rows]
        change = amounts(columns, taken, basis, gains)
        return word, fit, change[:growing] + ((1, 1),) + change[growing + 1:]
    return word, fit, shares(columns, [0 if is_filler(name) else gains[name] for name in basis])


def column_of(rows, sides, name):
    """The column of a variable: that of the program, or that of a filler, which has the sign of its side."""
    if not is_filler(name):
        return [row[name] for row in rows]
    return [unit(side) if filler(k) == name else 0 for k, side in enumerate(sides)]


def unit(side):
    """What the filler of a row with this side stands for in the row."""
    return -1 if side < 0 else 1


def amounts(columns, sides, basis, gains):
    """The tuple x that gives the sides with the columns of the basis alone."""
    matrix = [[column[k] for column in columns] for k in range(len(sides))]
    found = [(0, 1)] * len(gains)
    for name, amount in zip(basis, solved(matrix, sides)):
        if not is_filler(name):
            found[name] = amount
    return tuple(found)


def shares(columns, worths):
    """The tuple y that gives with each column its worth."""
    return tuple(solved(columns, worths))
