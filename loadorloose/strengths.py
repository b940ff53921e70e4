"""The cheapest strengths of the members with which a frame carries several loads (point 13)."""

from loadorloose.frames import growth, work
from loadorloose.motions import load_cells, lowest_motion, member_rows, number_motion, resting_cells
from loadorloose.numbers import number, summed, times
from loadorloose.programs import maximize


def use(frame, k, motion):
    """The use of the member k in a motion: an integer for one of vectors, a number for one of numbers."""
    _, _, pull, push = frame[1][k]
    grown = growth(frame, k, motion)
    if isinstance(grown, tuple):
        return number(used(grown[0], pull, push), grown[1])
    return used(grown, pull, push)


def used(grown, pull, push):
    """How much of an integer, by which a member with these limits grows, is its use."""
    if grown > 0 and pull != 0:
        return grown
    if grown < 0 and push != 0:
        return -grown
    return 0


def cheapest(frame, costs, loads):
    """("cost", c, strengths, tensions, motions), or ("never", k, motion) if no strengths suffice for the load k."""
    count = len(costs)
    ways = [(k, sign) for k in range(count) for sign in (1, -1)]
    works = [load_cells(frame, load) + [0] * len(ways) for load in loads]
    width = len(works[0])
    rows = load_rows(frame, ways, len(loads)) + cost_rows(frame, ways, len(loads))
    gains = [cell for cells in works for cell in cells] + [0] * count
    answer = maximize(rows, [0] * (len(rows) - count) + list(costs), tuple(gains))
    if answer[0] == "any":
        return unbearable(frame, loads, pieces(answer[2], width))
    _, moved, shares = answer
    motions = [number_motion(frame, piece) for piece in pieces(moved, width)[:len(loads)]]
    strengths = shares[len(shares) - count:]
    tensions = [shares[at * count:at * count + count] for at in range(len(loads))]
    return "cost", price(costs, strengths), strengths, tensions, motions


def load_rows(frame, ways, many):
    """The rows of the members for so many loads, each of which has a motion and ways of its own."""
    block = member_rows(frame, ways)
    found = []
    for at in range(many):
        for row in block:
            ahead = [0] * (at * len(row))
            behind = [0] * ((many - 1 - at) * len(row) + len(frame[1]))
            found.append(tuple(ahead + row + behind))
    return found


def cost_rows(frame, ways, many):
    """For each member the row that says that its uses for so many loads, and a rest, are together its cost."""
    found = []
    for k, (_, _, pull, push) in enumerate(frame[1]):
        uses = [used(sign, pull, push) if own == k else 0 for own, sign in ways]
        rest = [1 if other == k else 0 for other in range(len(frame[1]))]
        found.append(tuple((resting_cells(frame) + uses) * many + rest))
    return found


def pieces(amounts, width):
    """The amounts cut into pieces of this width, and a shorter rest."""
    return [amounts[start:start + width] for start in range(0, len(amounts), width)]


def unbearable(frame, loads, parts):
    """The answer for the first load that does work in its own part of a motion without uses."""
    motions = [lowest_motion(frame, part) for part in parts[:len(loads)]]
    k = [work(load, motion) > 0 for load, motion in zip(loads, motions)].index(True)
    return "never", k, motions[k]


def price(costs, strengths):
    """The sum of the products of costs and strengths."""
    return summed([times((cost, 1), strength) for cost, strength in zip(costs, strengths)])
