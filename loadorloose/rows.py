"""The rank and the kernel of rows of integers (point 4)."""

from loadorloose.numbers import brought, number
from loadorloose.sweeping import reduced

# A prime number, far greater than what chance makes a divisor of.
PRIME = 2305843009213693951


def rank(rows):
    """The greatest count of rows of which none is a sum of rational multiples of the others."""
    if not rows:
        return 0
    width = len(rows[0])
    least = rank_of_rests(rows)
    # The rests are quickly reckoned with, and mostly tell enough: no rank is greater than this.
    if least == min(len(rows), width):
        return least
    return len(reduced(rows, width)[1])


def rank_of_rests(rows):
    """The rank of the rests of the integers by the prime, reckoned by the prime; that of the rows is not less."""
    cells = [[n % PRIME for n in row] for row in rows]
    found = 0
    while cells:
        leader = cells[-1]
        cells = cells[:-1]
        column = first_place(leader)
        if column is not None:
            found += 1
            cells = [rests_joined(row, leader, column) for row in cells]
    return found


def first_place(row):
    """The place of the first integer of the row that is not 0, or None."""
    for place, n in enumerate(row):
        if n != 0:
            return place
    return None


def rests_joined(row, leader, column):
    """The row after the column was cleared from it by the leader, in rests by the prime."""
    factor = row[column]
    if factor == 0:
        return row
    pivot = leader[column]
    return [(pivot * a - factor * b) % PRIME for a, b in zip(row, leader)]


def kernel(rows, width):
    """A list of tuples of integers, in lowest terms, of which all that gives nought with each row is made."""
    cells, bound, loose = reduced(rows, width)
    found = []
    for free in loose:
        solution = [(0, 1)] * width
        solution[free] = (1, 1)
        for column, at in bound.items():
            solution[column] = number(-cells[at][free], cells[at][column])
        found.append(tuple(brought(solution)))
    return found
