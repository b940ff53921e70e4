"""Buildings of nets, step by step (point 17)."""

from loadorloose.counting import are_independent, chosen

# How many items the steps have that begin with these words.
LENGTHS = {"pair": 3, "two": 4, "three": 5}


def building(net):
    """A building of a net with at least two joints, a list of steps, or None if it has none."""
    n, _ = net
    pairs = chosen(net)
    if len(pairs) < 2 * n - 3:
        return None
    joints = list(range(n))
    steps = []
    # Pairs are independent as long as steps are undone, and one joint at least has less than four of them.
    while len(joints) > 2:
        step = last_step(n, joints, pairs)
        steps.append(step)
        joints.remove(step[1])
        pairs = undone(pairs, step)
    steps.append(("pair", joints[0], joints[1]))
    return steps[::-1]


def last_step(n, joints, pairs):
    """A step of which these pairs may have come, the last one of a building."""
    k = min(joints, key=lambda joint: len(neighbours(joint, pairs)))
    near = neighbours(k, pairs)
    if len(near) == 2:
        return "two", k, near[0], near[1]
    return three_step(n, k, near, pairs)


def neighbours(joint, pairs):
    """The ascending list of the joints that have a pair with a joint."""
    return sorted([i + j - joint for i, j in pairs if joint in (i, j)])


def three_step(n, k, near, pairs):
    """A step that adds the joint k with its pairs with the three joints near it."""
    a, b, c = near
    steps = [("three", k, a, b, c), ("three", k, a, c, b), ("three", k, b, c, a)]
    # At least one of the three pairs can be put back.
    fit = [step for step in steps if (step[2], step[3]) not in pairs and are_independent(n, undone(pairs, step))]
    return fit[0]


def undone(pairs, step):
    """The pairs before a step."""
    k = step[1]
    left = [pair for pair in pairs if k not in pair]
    if step[0] == "three":
        left.append((step[2], step[3]))
    return left


def is_building(net, steps):
    """Whether a list of steps is a building of a net with at least two joints."""
    n, pairs = net
    joints = []
    there = []
    for step in steps:
        if not can_follow(joints, there, step):
            return False
        joints, there = after(joints, there, step)
    return sorted(joints) == list(range(n)) and all([pair in pairs for pair in there])


def can_follow(joints, there, step):
    """Whether the step can be done where these joints and pairs are there."""
    if LENGTHS.get(step[0]) != len(step):
        return False
    if step[0] == "pair":
        return not joints and step[1] < step[2]
    k, i, j = step[1:4]
    if k in joints or i not in joints or j not in joints or i >= j:
        return False
    if step[0] == "two":
        return True
    h = step[4]
    return h in joints and h not in (i, j) and (i, j) in there


def after(joints, there, step):
    """The joints and the pairs that are there after a step that can be done."""
    if step[0] == "pair":
        return [step[1], step[2]], [(step[1], step[2])]
    k, i, j = step[1:4]
    if step[0] == "two":
        return joints + [k], there + [ascending(k, i), ascending(k, j)]
    left = [pair for pair in there if pair != (i, j)]
    return joints + [k], left + [ascending(k, i), ascending(k, j), ascending(k, step[4])]


def ascending(i, j):
    """The pair of two joints."""
    return min(i, j), max(i, j)
