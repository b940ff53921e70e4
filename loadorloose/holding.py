"""Whether a frame is held or stiff, or a motion that shows that it is not (points 14 and 15)."""

from loadorloose.frames import is_met, missing
from loadorloose.growths import free_places, growth_rows, paired, spread
from loadorloose.motions import limited_ways, lowest_motion, member_rows, resting_cells
from loadorloose.numbers import brought
from loadorloose.programs import maximize
from loadorloose.rows import kernel


def is_rigid(points, motion):
    """Whether a motion of joints at these places is rigid."""
    size = 1
    turned = 0
    ways = [apart(points, motion, k) for k in range(len(points))]
    for x, y, v, w in ways:
        if (x, y) != (0, 0):
            # The only turning that can give this joint its velocity is by turned / size.
            size = x * x + y * y
            turned = x * w - y * v
    return all([v * size == -turned * y and w * size == turned * x for x, y, v, w in ways])


def apart(points, motion, k):
    """By how much the place and the vector of the joint k differ from those of the first joint."""
    x, y = points[0]
    v, w = motion[0]
    return points[k][0] - x, points[k][1] - y, motion[k][0] - v, motion[k][1] - w


def is_proper(frame, tensions):
    """Whether integers are proper tensions."""
    points, members, _ = frame
    if not all([has_proper_sign(pull, push, t) for (_, _, pull, push), t in zip(members, tensions)]):
        return False
    return is_met(frame, missing(frame, ((0, 0),) * len(points), [(t, 1) for t in tensions]))


def has_proper_sign(pull, push, tension):
    """Whether a tension of a member with these limits has a sign that proper tensions may have."""
    if pull is None:
        return push is None or tension > 0
    if push is None:
        return tension < 0
    return tension == 0


def hold(frame):
    """("held", tensions) with proper tensions, or ("moves", motion) with an allowed motion that is not of noughts."""
    motions = unresisted(frame)
    if motions:
        return "moves", motions[0]
    word, paper = proper_or_motion(frame)
    return ("held" if word == "proper" else "moves"), paper


def stiffen(frame):
    """("stiff", tensions) with proper tensions, or ("bends", motion) with an allowed motion that is not rigid."""
    for motion in unresisted(frame):
        if not is_rigid(frame[0], motion):
            return "bends", motion
    word, paper = proper_or_motion(frame)
    return ("stiff" if word == "proper" else "bends"), paper


def unresisted(frame):
    """A list of motions of which all those are made in which only members with both limits grow or shrink."""
    places = free_places(frame)
    rows = []
    for (_, _, pull, push), row in zip(frame[1], growth_rows(frame)):
        if pull is None or push is None:
            rows.append(tuple([row[place] for place in places]))
    return [paired(spread(frame, base, 0)) for base in kernel(rows, len(places))]


def proper_or_motion(frame):
    """("proper", tensions), or ("motion", motion) with an allowed motion in which a cable shrinks or a strut grows."""
    ways, _ = limited_ways(frame[1])
    rows = [tuple(row) for row in member_rows(frame, ways)]
    gains = resting_cells(frame) + [1 if None in frame[1][k] else 0 for k, _ in ways]
    answer = maximize(rows, [0] * len(rows), tuple(gains))
    if answer[0] == "most":
        return "proper", tuple(brought(answer[2]))
    return "motion", lowest_motion(frame, answer[2])
