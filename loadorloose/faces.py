"""Plane nets and their rounds (points 23 and 24)."""

from loadorloose.building import neighbours
from loadorloose.reaching import reached


def is_plane(points, pairs):
    """Whether different points and different pairs are a plane net."""
    if len(reached(all_neighbours(points, pairs), 0)) < len(points):
        return False
    return not any([meets_more(points, pairs, at) for at in range(len(pairs))])


def all_neighbours(points, pairs):
    """For each joint the ascending list of those that have a pair with it."""
    return [neighbours(joint, pairs) for joint in range(len(points))]


def meets_more(points, pairs, at):
    """Whether a joint lies inside a pair, or a pair before it crosses it.

    Pairs that have more in common than a joint of both cross, or a joint of one lies inside the other.
    """
    i, j = pairs[at]
    if any([is_between(points[i], points[j], place) for place in points]):
        return True
    return any([are_crossing(points, pairs[at], pair) for pair in pairs[:at]])


def side(p, q, r):
    """Above 0 if the place r lies to the left of the way from p to q, below 0 if to its right, else 0."""
    return (q[0] - p[0]) * (r[1] - p[1]) - (q[1] - p[1]) * (r[0] - p[0])


def is_between(p, q, r):
    """Whether the place r lies between p and q, and is neither of them."""
    return side(p, q, r) == 0 and (p[0] - r[0]) * (q[0] - r[0]) + (p[1] - r[1]) * (q[1] - r[1]) < 0


def are_crossing(points, some, others):
    """Whether each of two pairs has its joints on different sides of the other one."""
    p, q = points[some[0]], points[some[1]]
    v, w = points[others[0]], points[others[1]]
    return side(p, q, v) * side(p, q, w) < 0 and side(v, w, p) * side(v, w, q) < 0


def rounds(points, pairs):
    """The ascending list of the rounds of a plane net."""
    after = next_steps(points, pairs)
    found = []
    gone = {}
    for start in after:
        if start not in gone:
            steps = steps_from(after, start)
            for step in steps:
                gone[step] = True
            found.append(least_turned([i for i, _ in steps]))
    return sorted(found)


def next_steps(points, pairs):
    """A dict from each step (i, j) to the next one."""
    near = all_neighbours(points, pairs)
    return {(i, j): (j, first_met(points, near[j], i, j)) for i in range(len(points)) for j in near[i]}


def first_met(points, near, i, j):
    """The joint, of those near j, to which the pair leads that follows the step from i to j."""
    best = near[0]
    for k in near:
        if is_met_before(points, i, j, k, best):
            best = k
    return best


def is_met_before(points, i, j, k, other):
    """Whether the direction from j to i, turned with the clock, meets the direction to k before that to the other."""
    part = part_of_turn(points, i, j, k)
    its = part_of_turn(points, i, j, other)
    if part != its:
        return part < its
    return side(points[j], points[k], points[other]) < 0


def part_of_turn(points, i, j, k):
    """How far the direction from j to i must be turned with the clock to meet that to k.

    It is 0 for half a turn at most, 1 for more, and 2 for a whole turn.
    """
    if k == i:
        return 2
    return 1 if side(points[j], points[i], points[k]) > 0 else 0


def steps_from(after, start):
    """The list of the steps of a round, from one of them on."""
    found = [start]
    while after[found[-1]] != start:
        found.append(after[found[-1]])
    return found


def least_turned(joints):
    """The least of the tuples that are the same round as these joints."""
    return min([tuple(joints[k:] + joints[:k]) for k in range(len(joints))])


def outer(points, pairs):
    """The position of the outer round in the list of the rounds."""
    return outer_of(points, rounds(points, pairs))


def outer_of(points, rings):
    """The position of the outer one of these rounds: the only one that does not go against the clock."""
    return [doubled_area(points, ring) > 0 for ring in rings].index(False)


def doubled_area(points, ring):
    """Twice the area that a round goes round against the clock; that with the other sign if it goes with it."""
    return sum([side((0, 0), points[i], points[j]) for i, j in ring_steps(ring)])


def ring_steps(ring):
    """The list of the steps of a round."""
    return list(zip(ring, ring[1:] + ring[:1]))
