"""Programs: the greatest gain, and the papers that show it (point 5)."""

from loadorloose.numbers import together
from loadorloose.papers import paper
from loadorloose.simplex import settled


def maximize(rows, sides, gains):
    """The answer of point 5: ("none", y), ("any", x, r) or ("most", x, y)."""
    # A guess with rounded integers is quick and nearly always right, and its answer is judged exactly.
    answer = paper(rows, sides, gains, settled(rows, sides, gains, True))
    if shows(rows, sides, gains, answer):
        return answer
    return paper(rows, sides, gains, settled(rows, sides, gains, False))


def shows(rows, sides, gains, answer):
    """Whether a tuple of one of the three forms of point 5 is a right answer."""
    word = answer[0]
    parts = answer[1:]
    if word == "none" and len(parts) == 1:
        return shows_none(rows, sides, gains, parts[0])
    if word == "any" and len(parts) == 2:
        return shows_any(rows, sides, gains, parts[0], parts[1])
    if word == "most" and len(parts) == 2:
        return shows_most(rows, sides, gains, parts[0], parts[1])
    return False


def shows_none(rows, sides, gains, shares):
    """Whether the shares of the rows show that nothing is fit."""
    if len(shares) != len(rows):
        return False
    parts, _ = together(shares)
    if dot(sides, parts) >= 0:
        return False
    return all([total >= 0 for total in column_totals(rows, gains, parts)])


def shows_any(rows, sides, gains, fit, change):
    """Whether the first tuple is fit, and adding the second one over and over makes the gain grow for ever."""
    if not is_fit(rows, sides, gains, fit) or len(change) != len(gains):
        return False
    parts, _ = together(change)
    if any([n < 0 for n in parts]) or any([dot(row, parts) != 0 for row in rows]):
        return False
    return dot(gains, parts) > 0


def shows_most(rows, sides, gains, fit, shares):
    """Whether the tuple is fit, and the shares of the rows show that none has a greater gain."""
    if not is_fit(rows, sides, gains, fit) or len(shares) != len(rows):
        return False
    parts, scale = together(shares)
    totals = column_totals(rows, gains, parts)
    if any([total < gain * scale for gain, total in zip(gains, totals)]):
        return False
    own_parts, own_scale = together(fit)
    return dot(gains, own_parts) * scale == dot(sides, parts) * own_scale


def is_fit(rows, sides, gains, fit):
    """Whether a tuple of numbers is fit: none is below nought, and each row gives its side."""
    if len(fit) != len(gains):
        return False
    parts, scale = together(fit)
    if any([n < 0 for n in parts]):
        return False
    return all([dot(row, parts) == side * scale for row, side in zip(rows, sides)])


def dot(some, others):
    """The sum of the products of two lists of integers."""
    return sum([a * b for a, b in zip(some, others)])


def column_totals(rows, gains, parts):
    """For each column the sum of the products of its entries and the parts of the rows."""
    return [sum([row[k] * part for row, part in zip(rows, parts)]) for k in range(len(gains))]
