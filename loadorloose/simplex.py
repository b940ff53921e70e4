"""The simplex method: which of the three cases of a program holds, and in which basis this is seen."""

from loadorloose.tables import SIDE, Table, is_filler


def settled(rows, sides, gains, rounding):
    """The word of the case, the names of the basis at the end, and the name of a variable that may grow for ever.

    The last one is None but for the word "any". If `rounding`, the table rounds long integers, and all this may be
    but a guess.
    """
    table = Table(rows, sides, gains, rounding)
    table.nudge()
    if not is_filled(table):
        return "none", table.basis, None
    drop_fillers(table)
    table.nudge()
    place = endless(table)
    if place is None:
        return "most", table.basis, None
    return "any", table.basis, table.loose[place]


def is_filled(table):
    """Make the sum of the fillers as small as can be; whether it becomes nought."""
    while not table.is_lost():
        goal = table.lacking
        if goal[SIDE] <= table.least(goal):
            return True
        place = table.entering(goal)
        if place is None:
            return False
        at = table.leaving(place)
        # A filler bounds the variable, unless rounding has blurred it.
        if at is None:
            return False
        table.exchange(at, place)
    return False


def drop_fillers(table):
    """Take the fillers, which are nought, out of the basis, but those of rows that follow from the other rows."""
    for at in range(len(table.basis)):
        if is_filler(table.basis[at]):
            place = table.strongest(at)
            if place is not None:
                if table.rows[at][place] < 0:
                    table.turn(at)
                table.exchange(at, place)


def endless(table):
    """Make the gain as great as can be; the place of a variable that may grow for ever, or None."""
    while not table.is_lost():
        place = table.entering(table.gains)
        if place is None:
            return None
        at = table.leaving(place)
        if at is None:
            return place
        table.exchange(at, place)
    return None
