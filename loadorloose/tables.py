"""The table of the simplex method, over integers.

A table holds the rows of a program, solved for the variables of a *basis*, one for each row. A row is a list of cells:
its weight, its side, its nudge, and one cell for each *loose* variable. It says that the weight times the variable of
the row, and the cells times the loose variables, are together the side; the loose variables are nought. So the value of
a cell is the cell over the weight, which is above 0.

The variables are named by integers: k from 0 on is the one of the column k of the program; `filler(i)` is that of the
filler of row i, which takes what is missing to the side of the row, and which is to become nought.
"""

from loadorloose.numbers import lowest
from loadorloose.sweeping import joined, without

# The nudge tells how an endlessly small push moves the side. With it hardly two rows bound a variable alike, so that
# the method does not stay where it is for long when many sides are nought.
WEIGHT = 0
SIDE = 1
NUDGE = 2
FIRST = 3

# A weight with more than LONG bits is rounded to KEPT bits. Values below 2 ** -FAINT are then taken for nought.
LONG = 448
KEPT = 384
FAINT = 128


def filler(row):
    """The name of the filler of a row."""
    return -1 - row


def is_filler(name):
    """Whether this is the name of a filler."""
    return name < 0


class Table:
    """The rows of a program, and two more: that of the gains, and that of what is lacking, the sum of the fillers.

    The side of the row of the gains is the gain with the other sign. If `rounding`, rows that become too long are
    rounded; this is quick, but what the table tells is then but a guess.
    """

    def __init__(self, rows, sides, gains, rounding):
        self.rows = [upright(row, side) for row, side in zip(rows, sides)]
        self.gains = [1, 0, 0, *gains]
        self.lacking = [1] + [sum([row[k] for row in self.rows]) for k in range(SIDE, FIRST + len(gains))]
        self.basis = [filler(k) for k in range(len(rows))]
        self.loose = [None] * FIRST + list(range(len(gains)))
        self.rounding = rounding
        self.is_rough = False
        self.turns = 0
        self.patience = 10 * (len(rows) + len(gains) + 1)

    def exchange(self, at, place):
        """Let the loose variable at the place come into the basis for the one of the row `at`.

        The cell of that row at the place is above 0.
        """
        row = self.rows[at]
        pivot = row[place]
        leader = [0] + without(row, place)[1:]
        leaving = self.basis[at]
        self.basis[at] = self.loose[place]
        self.loose = without(self.loose, place)
        # A filler that has left the basis never comes back, so no cells are kept for it.
        if not is_filler(leaving):
            self.loose.append(leaving)
            leader.append(row[WEIGHT])
        self.rows = [self.cleared(other, place, leader, pivot) for other in self.rows]
        self.rows[at] = [pivot] + leader[1:]
        self.gains = self.cleared(self.gains, place, leader, pivot)
        self.lacking = self.cleared(self.lacking, place, leader, pivot)
        self.turns += 1

    def cleared(self, row, place, leader, pivot):
        """The row without the cell at the place, for which it has taken so much of the leader."""
        rest = without(row, place)
        if len(rest) < len(leader):
            rest.append(0)
        if row[place] == 0:
            return rest
        rest = joined(rest, row[place], leader, pivot)
        spare = rest[WEIGHT].bit_length() - KEPT
        if self.rounding and spare > LONG - KEPT:
            self.is_rough = True
            return [cell >> spare for cell in rest]
        return lowest(rest)

    def turn(self, at):
        """Change the sign of a row whose filler is nought: it may as well count the other way."""
        row = self.rows[at]
        self.rows[at] = [row[WEIGHT]] + [-cell for cell in row[1:]]

    def nudge(self):
        """Nudge the sides of all rows upwards, each one by another measure."""
        measure = 1
        for at in range(len(self.rows)):
            measure = measure * 75 % 65537
            self.rows[at][NUDGE] = measure * self.rows[at][WEIGHT]

    def least(self, row):
        """Cells of the row up to this are taken for nought."""
        return row[WEIGHT] >> FAINT if self.is_rough else 0

    def is_late(self):
        """Whether there were so many turns that they may go in circles."""
        return self.turns > self.patience

    def is_lost(self):
        """Whether the turns may never end, since rows were rounded."""
        return self.is_rough and self.is_late()

    def entering(self, goal):
        """The place of a loose variable whose cell of the goal, a row, is above nought, or None."""
        places = [k for k in range(FIRST, len(goal)) if goal[k] > self.least(goal)]
        if not places:
            return None
        if self.is_late():
            return min(places, key=lambda k: self.loose[k])
        return max(places, key=lambda k: goal[k])

    def leaving(self, place):
        """The row whose variable is the first to become nought when the one at the place grows, or None."""
        best = None
        for at, row in enumerate(self.rows):
            if row[place] > self.least(row):
                if best is None or self.is_before(at, best, place):
                    best = at
        return best

    def is_before(self, at, other, place):
        """Whether the row `at` bounds the variable at the place more than another row does."""
        gap = self.gap(at, other, place, SIDE)
        # When it is late, the least names are taken everywhere; the method then ends for sure, but without nudges.
        if gap == 0 and not self.is_late():
            gap = self.gap(at, other, place, NUDGE)
        if gap == 0:
            return self.basis[at] < self.basis[other]
        return gap < 0

    def gap(self, at, other, place, kind):
        """Below 0 if the side (or nudge) of the row `at` over its cell at the place is less than that of the other."""
        mine = self.rows[at]
        its = self.rows[other]
        return mine[kind] * its[place] - its[kind] * mine[place]

    def strongest(self, at):
        """The place of the cell of a row that is farthest from nought, or None if all are nought."""
        row = self.rows[at]
        places = [k for k in range(FIRST, len(row)) if abs(row[k]) > self.least(row)]
        return max(places, key=lambda k: abs(row[k]), default=None)


def upright(row, side):
    """The row of the table for a row of the program, turned so that its side is not below nought."""
    if side < 0:
        return [1, -side, 0] + [-n for n in row]
    return [1, side, 0, *row]
