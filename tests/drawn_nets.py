"""Drawn nets, and what they are by the words of points 16 and 17."""

from itertools import combinations


def all_pairs(n):
    """All pairs of n joints."""
    return list(combinations(range(n), 2))


def drawn_net(draw, n, count=None):
    """A net with drawn pairs in a drawn order."""
    pairs = all_pairs(n)
    count = draw.randint(0, len(pairs)) if count is None else min(count, len(pairs))
    return n, tuple(draw.sample(pairs, count))


def by_steps(draw, n, share):
    """Pairs that a drawn building of n joints leaves, with a share of steps "three", the joints in no order."""
    joints = draw.sample(range(n), n)
    there = [tuple(sorted(joints[:2]))]
    for at in range(2, n):
        k = joints[at]
        if at > 2 and draw.random() < share:
            i, j = there.pop(draw.randrange(len(there)))
            ends = [i, j, draw.choice([h for h in joints[:at] if h not in (i, j)])]
        else:
            ends = draw.sample(joints[:at], 2)
        there += [tuple(sorted((k, end))) for end in ends]
    draw.shuffle(there)
    return there


def of_threes(draw, n):
    """Just enough pairs such that each joint has three or more: n is at least 6."""
    there = [(i, j) for i in (0, 1, 2) for j in (3, 4, 5)]
    for k in range(6, n):
        i, j = there.pop(draw.randrange(len(there)))
        h = draw.choice([h for h in range(k) if h not in (i, j)])
        there += [(i, k), (j, k), (h, k)]
    draw.shuffle(there)
    return there


def own_independent(n, pairs):
    """Whether pairs are independent, by all sets of joints."""
    for m in range(2, n + 1):
        for joints in combinations(range(n), m):
            if sum(i in joints and j in joints for i, j in pairs) > 2 * m - 3:
                return False
    return True


def own_chosen(n, pairs):
    """The pairs that are chosen, one by one."""
    found = []
    for pair in pairs:
        if own_independent(n, found + [pair]):
            found.append(pair)
    return found


def own_building(net, steps):
    """Whether steps are a building, done one by one by the words of point 17."""
    n, pairs = net
    joints, there = set(), set()
    for at, (word, *numbers) in enumerate(steps):
        if word == "pair" and len(numbers) == 2 and at == 0:
            i, j = numbers
            if i >= j:
                return False
            joints, there = {i, j}, {(i, j)}
            continue
        if at == 0 or {"two": 3, "three": 4}.get(word) != len(numbers):
            return False
        k, i, j = numbers[:3]
        if k in joints or not {i, j, *numbers[3:]} <= joints or i >= j or len({*numbers}) != len(numbers):
            return False
        if word == "three":
            if (i, j) not in there:
                return False
            there.remove((i, j))
        joints.add(k)
        there |= {tuple(sorted((k, end))) for end in numbers[1:]}
    return joints == set(range(n)) and there <= set(pairs)


def own_count_rank(draw, n, pairs):
    """The count rank: the rank of the growths for places drawn by a large prime, which hardly ever is less."""
    prime = 2 ** 89 - 1
    points = [(draw.randrange(prime), draw.randrange(prime)) for _ in range(n)]
    rows = []
    for i, j in pairs:
        row = [0] * (2 * n)
        for c in (0, 1):
            row[2 * i + c] = points[i][c] - points[j][c]
            row[2 * j + c] = points[j][c] - points[i][c]
        rows.append(row)
    return prime_rank(rows, prime)


def prime_rank(rows, prime):
    """The rank of rows by a prime."""
    found = 0
    while rows:
        leader = rows.pop()
        place = next((k for k, cell in enumerate(leader) if cell % prime), None)
        if place is not None:
            found += 1
            over = pow(leader[place], -1, prime)
            rows = [[(a - row[place] * over * b) % prime for a, b in zip(row, leader)] for row in rows]
    return found
