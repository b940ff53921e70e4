"""What several tests need: drawn rows and programs, and sums of their own to judge answers by."""

import random
from fractions import Fraction


def fraction(a):
    """The fraction of a number of the program."""
    return Fraction(a[0], a[1])


def fractions(numbers):
    """The fractions of a list or tuple of numbers of the program."""
    return [fraction(a) for a in numbers]


def number_of(value):
    """The number of the program for an integer or a fraction."""
    value = Fraction(value)
    return value.numerator, value.denominator


def dot(some, others):
    """The sum of products, begun with an integer."""
    return sum(a * b for a, b in zip(some, others, strict=True))


def fraction_rank(rows):
    """The rank of rows, reckoned with fractions."""
    rows = [[Fraction(n) for n in row] for row in rows]
    found = 0
    for column in range(len(rows[0]) if rows else 0):
        at = next((k for k in range(found, len(rows)) if rows[k][column] != 0), None)
        if at is None:
            continue
        rows[found], rows[at] = rows[at], rows[found]
        for k in range(found + 1, len(rows)):
            share = rows[k][column] / rows[found][column]
            if share:
                rows[k] = [a - share * b for a, b in zip(rows[k], rows[found])]
        found += 1
    return found


def is_number(a):
    """Whether this is a number as point 2 writes it."""
    if type(a) is not tuple or len(a) != 2 or type(a[0]) is not int or type(a[1]) is not int:
        return False
    value = Fraction(a[0], a[1]) if a[1] > 0 else None
    return value is not None and (value.numerator, value.denominator) == a


def is_right(rows, sides, gains, answer):
    """Whether an answer of one of the three forms is right by the words of point 5."""
    word, *parts = answer
    columns = [[row[k] for row in rows] for k in range(len(gains))]
    if word == "none":
        y = fractions(parts[0])
        return all(dot(column, y) >= 0 for column in columns) and dot(sides, y) < 0
    x = fractions(parts[0])
    other = fractions(parts[1])
    if any(n < 0 for n in x) or any(dot(row, x) != side for row, side in zip(rows, sides)):
        return False
    if word == "any":
        nought = all(dot(row, other) == 0 for row in rows)
        return nought and all(n >= 0 for n in other) and dot(gains, other) > 0
    enough = all(dot(column, other) >= gain for column, gain in zip(columns, gains))
    return enough and dot(gains, x) == dot(sides, other)


def has_form(rows, gains, answer):
    """Whether an answer has one of the three forms, with tuples of the right lengths of right numbers."""
    if type(answer) is not tuple:
        return False
    lengths = {"none": [len(rows)], "any": [len(gains)] * 2, "most": [len(gains), len(rows)]}
    word, *parts = answer
    if word not in lengths or [len(part) for part in parts] != lengths[word]:
        return False
    return all(type(part) is tuple and all(is_number(a) for a in part) for part in parts)


def drawn_rows(draw, count, width, size, noughts=0.0):
    """Drawn rows of integers up to a size, with a share of noughts."""
    return [
        tuple(0 if draw.random() < noughts else draw.randint(-size, size) for _ in range(width))
        for _ in range(count)
    ]


def mixed_rows(draw, count, base):
    """Rows that are sums of multiples of the base's, in no order."""
    found = list(base)
    while len(found) < count:
        shares = [draw.choice((0, 0, 1, -1, 2, -3)) for _ in base]
        found.append(tuple(dot(shares, column) for column in zip(*base)))
    draw.shuffle(found)
    return found


def fit_sides(draw, rows, width, many):
    """Sides for which a drawn tuple, of which a share is above nought, is fit."""
    x = [draw.randint(1, 3) if draw.random() < many else 0 for _ in range(width)]
    return [dot(row, x) for row in rows]


def bounded_gains(draw, rows, width, size):
    """Gains that have a bound if something is fit."""
    y = [draw.randint(-3, 3) for _ in rows]
    return tuple(dot(y, [row[k] for row in rows]) - draw.choice((0, draw.randint(0, size))) for k in range(width))


def drawn_program(draw):
    """A small program of any of the three kinds, often with multiples among its rows and many noughts."""
    count = draw.randint(0, 6)
    width = draw.randint(0, 9)
    size = draw.choice((1, 1, 2, 5, 10 ** 12))
    rows = drawn_rows(draw, count, width, size, draw.choice((0, 0.3, 0.7)))
    for k in range(1, count):
        if draw.random() < 0.15:
            times = draw.randint(-3, 3)
            rows[k] = tuple(times * n for n in rows[draw.randrange(k)])
    kind = draw.random()
    if kind < 0.6:
        sides = fit_sides(draw, rows, width, draw.random())
    elif kind < 0.85:
        sides = [draw.randint(-size, size) for _ in rows]
    else:
        sides = [0 for _ in rows]
    if draw.random() < 0.6:
        return rows, sides, bounded_gains(draw, rows, width, size)
    return rows, sides, tuple(draw.randint(-size, size) for _ in range(width))


def drawing(seed):
    """A source of drawn values that are the same in each run."""
    return random.Random(seed)
