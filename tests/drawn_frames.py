"""Drawn frames, loads and tensions for the tests."""

from itertools import combinations

from own_sums import own_missing

LARGE = 10 ** 12

# What the limits of a member are drawn from, by the name of a kind of frames.
KINDS = {
    "bars": [(None, None)],
    "ropes": [(None, None), (None, 0), (0, None)],
    "cables": [(None, 0), (None, 0), (0, None)],
    "small": [(None, None), (None, 0), (0, None), (None, 2), (3, None), (0, 0), (1, 1), (0, 2), (2, 0), (4, 3)],
    "both": [(1, 1), (2, 1), (1, 3), (2, 2)],
    "large": [(None, None), (None, LARGE), (LARGE - 1, None), (10 ** 6, LARGE), (LARGE, LARGE), (7, 10 ** 9)],
}


def drawn_points(draw, n, places):
    """Places of joints: far apart, near (also several at one place), in a line, or all at one place."""
    if places == "far":
        return tuple((draw.randint(-1000, 1000), draw.randint(-1000, 1000)) for _ in range(n))
    if places == "line":
        return tuple((2 * k, -k) for k in (draw.randint(-4, 4) for _ in range(n)))
    if places == "one":
        return ((3, -2),) * n
    return tuple((draw.randint(0, 3), draw.randint(0, 3)) for _ in range(n))


def drawn_members(draw, points, m, kind):
    """Members between joints at different places, up to m of them, in no order."""
    pairs = [(i, j) for i, j in combinations(range(len(points)), 2) if points[i] != points[j]]
    return tuple(pair + draw.choice(KINDS[kind]) for pair in draw.sample(pairs, min(m, len(pairs))))


def drawn_pins(draw, n):
    """Pins: often none, often some, seldom all joints."""
    many = min(n, draw.choice((0, 0, 0, 1, 1, 2, draw.randint(0, n))))
    return tuple(sorted(draw.sample(range(n), many)))


def drawn_frame(draw, most=6, kinds=tuple(KINDS), places=("far", "near", "near", "line", "one")):
    """A small frame of any kind."""
    points = drawn_points(draw, draw.randint(0, most), draw.choice(places))
    members = drawn_members(draw, points, draw.randint(0, 3 * len(points)), draw.choice(kinds))
    return points, members, drawn_pins(draw, len(points))


def large_frame(draw, kind, pins, places="far", n=16, m=42):
    """A frame of the greatest counts of point 29, with so many pins."""
    points = drawn_points(draw, n, places)
    return points, drawn_members(draw, points, m, kind), tuple(sorted(draw.sample(range(n), pins)))


def grid(kind, draw, pins=()):
    """A frame of four by four joints with 42 members between neighbours, which has many symmetries."""
    points = tuple((x, y) for y in range(4) for x in range(4))
    near = [(i, j) for i, j in combinations(range(16), 2) if near_by(points[i], points[j])]
    return points, tuple(pair + draw.choice(KINDS[kind]) for pair in near[:42]), pins


def near_by(p, q):
    """Whether two places are neighbours, also across a corner."""
    return max(abs(p[0] - q[0]), abs(p[1] - q[1])) == 1


def drawn_load(draw, frame, size=None):
    """Forces up to a size, often noughts."""
    size = draw.choice((1, 3, LARGE)) if size is None else size
    share = draw.choice((0, 0.5, 0.8))
    return tuple(
        tuple(0 if draw.random() < share else draw.randint(-size, size) for _ in (0, 1)) for _ in frame[0]
    )


def drawn_tensions(draw, frame, size=5):
    """Integers within the limits."""
    found = []
    for _, _, pull, push in frame[1]:
        least = -size if push is None else -min(push, size)
        most = size if pull is None else min(pull, size)
        found.append(draw.choice((least, most, draw.randint(least, most))))
    return tuple(found)


def load_of(draw, frame, tensions):
    """The load that integers carry as tensions, with any forces at the pins."""
    found = []
    for k, (x, y) in enumerate(own_missing(frame, ((0, 0),) * len(frame[0]), tensions)):
        found.append((draw.randint(-9, 9), draw.randint(-9, 9)) if k in frame[2] else (int(-x), int(-y)))
    return tuple(found)


def noughts(frame):
    """The load of noughts."""
    return ((0, 0),) * len(frame[0])


def times_load(load, factor):
    """The load times an integer."""
    return tuple((factor * x, factor * y) for x, y in load)
