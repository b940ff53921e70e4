"""Sums over frames by the words of the points, reckoned with fractions, to judge the program's answers by."""

from fractions import Fraction
from math import gcd

from support import fraction_rank, fractions, is_number


def value(n):
    """The fraction of a number of the program or of an integer."""
    return Fraction(*n) if isinstance(n, tuple) else Fraction(n)


def flat(vectors):
    """The coordinates of vectors."""
    return [n for vector in vectors for n in vector]


def own_growth(frame, k, motion):
    """The growth of a member in a motion of vectors or of numbers, a fraction."""
    points, members, _ = frame
    i, j = members[k][:2]
    return sum((points[i][c] - points[j][c]) * (value(motion[i][c]) - value(motion[j][c])) for c in (0, 1))


def own_work(load, motion):
    """The work of a load in a motion of vectors or of numbers, a fraction."""
    return sum((f * value(v) for f, v in zip(flat(load), flat(motion), strict=True)), Fraction(0))


def own_allowed(frame, motion):
    """Whether a motion is allowed."""
    for k, (_, _, pull, push) in enumerate(frame[1]):
        grown = own_growth(frame, k, motion)
        if (pull is None and grown > 0) or (push is None and grown < 0):
            return False
    return True


def own_resistance(frame, motion):
    """The resistance of an allowed motion."""
    total = Fraction(0)
    for k, (_, _, pull, push) in enumerate(frame[1]):
        grown = own_growth(frame, k, motion)
        if grown > 0:
            total += pull * grown
        if grown < 0:
            total += push * -grown
    return total


def own_use(frame, k, motion):
    """The use of a member in a motion."""
    _, _, pull, push = frame[1][k]
    grown = own_growth(frame, k, motion)
    if grown > 0 and pull != 0:
        return grown
    if grown < 0 and push != 0:
        return -grown
    return Fraction(0)


def own_missing(frame, load, tensions, factor=1):
    """For each joint what its force of the load times the factor and its members' forces are together."""
    points, members, _ = frame
    found = [[factor * n for n in force] for force in load]
    for (i, j, _, _), tension in zip(members, tensions, strict=True):
        for c in (0, 1):
            found[i][c] += value(tension) * (points[j][c] - points[i][c])
            found[j][c] += value(tension) * (points[i][c] - points[j][c])
    return found


def is_balanced(frame, load, tensions, factor=1):
    """Whether nothing is missing at the joints that are not pinned."""
    found = own_missing(frame, load, tensions, factor)
    return all(found[k] == [0, 0] for k in range(len(found)) if k not in frame[2])


def own_within(frame, tensions):
    """Whether tensions are within the limits."""
    for (_, _, pull, push), tension in zip(frame[1], tensions, strict=True):
        t = value(tension)
        if (pull is not None and t > pull) or (push is not None and t < -push):
            return False
    return True


def rests_at_pins(frame, motion):
    """Whether a motion is nought at the pins."""
    return all(value(n) == 0 for pin in frame[2] for n in motion[pin])


def right_carry(frame, load, answer):
    """Whether an answer is right by the words of points 8 to 11."""
    word, part = answer
    if word == "tensions":
        return own_within(frame, part) and is_balanced(frame, load, part)
    if not rests_at_pins(frame, part) or not own_allowed(frame, part):
        return False
    return own_work(load, part) > own_resistance(frame, part)


def right_greatest(frame, load, answer):
    """Whether an answer is right by the words of point 12."""
    if answer[0] == "any":
        for (_, _, pull, push), tension in zip(frame[1], answer[1], strict=True):
            t = value(tension)
            if (t > 0 and pull is not None) or (t < 0 and push is not None):
                return False
        return is_balanced(frame, load, answer[1])
    _, factor, tensions, motion = answer
    t = value(factor)
    if t < 0 or not own_within(frame, tensions) or not is_balanced(frame, load, tensions, t):
        return False
    if not rests_at_pins(frame, motion) or not own_allowed(frame, motion) or own_work(load, motion) <= 0:
        return False
    return t * own_work(load, motion) == own_resistance(frame, motion)


def right_cheapest(frame, costs, loads, answer):
    """Whether an answer is right by the words of point 13."""
    members = frame[1]
    if answer[0] == "never":
        _, k, motion = answer
        if k not in range(len(loads)) or not rests_at_pins(frame, motion):
            return False
        return not any(own_use(frame, m, motion) for m in range(len(members))) and own_work(loads[k], motion) > 0
    _, cost, strengths, tensions, motions = answer
    strengths = fractions(strengths)
    if any(s < 0 for s in strengths) or value(cost) != sum(c * s for c, s in zip(costs, strengths, strict=True)):
        return False
    for load, some in zip(loads, tensions, strict=True):
        for (_, _, pull, push), s, tension in zip(members, strengths, some, strict=True):
            t = value(tension)
            if t > (0 if pull == 0 else s) or -t > (0 if push == 0 else s):
                return False
        if not is_balanced(frame, load, some):
            return False
    if not all(rests_at_pins(frame, motion) for motion in motions):
        return False
    if any(sum(own_use(frame, k, motion) for motion in motions) > costs[k] for k in range(len(members))):
        return False
    return sum(own_work(load, motion) for load, motion in zip(loads, motions, strict=True)) == value(cost)


def own_rigid(points, motion):
    """Whether a motion is rigid by the words of point 14."""
    base = [(1, 0) * len(points), (0, 1) * len(points), tuple(n for x, y in points for n in (-y, x))]
    return fraction_rank(base + [tuple(flat(motion))]) == fraction_rank(base)


def own_proper(frame, tensions):
    """Whether integers are proper tensions by the words of point 15."""
    for (_, _, pull, push), t in zip(frame[1], tensions, strict=True):
        if pull is None and push is not None and t <= 0:
            return False
        if push is None and pull is not None and t >= 0:
            return False
        if pull is not None and push is not None and t != 0:
            return False
    return is_balanced(frame, ((0, 0),) * len(frame[0]), tensions)


def freedom(frame):
    """How many independent motions there are in which no member but those with both limits grows or shrinks."""
    points, members, pins = frame
    rows = []
    for i, j, pull, push in members:
        if pull is None or push is None:
            row = [0] * (2 * len(points))
            for c in (0, 1):
                row[2 * i + c] = points[i][c] - points[j][c]
                row[2 * j + c] = points[j][c] - points[i][c]
            rows.append([n for k, n in enumerate(row) if k // 2 not in pins])
    return 2 * (len(points) - len(pins)) - fraction_rank(rows)


def rigid_freedom(frame):
    """How many independent rigid motions there are that are nought at the pins."""
    points, _, pins = frame
    places = set(points)
    pinned = {points[pin] for pin in pins}
    if len(pinned) > 1 or not places:
        return 0
    if pinned:
        return int(len(places) > 1)
    return 3 if len(places) > 1 else 2


def right_hold(frame, answer):
    """Whether an answer is right by the words of point 15."""
    word, part = answer
    if word == "held":
        return own_proper(frame, part) and freedom(frame) == 0
    return rests_at_pins(frame, part) and own_allowed(frame, part) and any(flat(part))


def right_stiffen(frame, answer):
    """Whether an answer is right by the words of point 15."""
    word, part = answer
    if word == "stiff":
        return own_proper(frame, part) and freedom(frame) == rigid_freedom(frame)
    return rests_at_pins(frame, part) and own_allowed(frame, part) and not own_rigid(frame[0], part)


def are_numbers(frame, tensions):
    """Whether this is a tuple of numbers, one for each member."""
    return type(tensions) is tuple and len(tensions) == len(frame[1]) and all(is_number(t) for t in tensions)


def are_lowest_integers(integers):
    """Whether these are integers in lowest terms."""
    return all(type(n) is int for n in integers) and gcd(*integers) in (0, 1)


def is_lowest_motion(frame, motion):
    """Whether this is a tuple of vectors, one for each joint, in lowest terms."""
    if type(motion) is not tuple or len(motion) != len(frame[0]):
        return False
    return all(type(v) is tuple and len(v) == 2 for v in motion) and are_lowest_integers(flat(motion))
