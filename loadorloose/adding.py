"""Pairs that a net could do without, and offers that make it enough (point 20)."""

from loadorloose.counting import Holder, chosen, count_rank, is_enough


def spare(net):
    """The list of the spare pairs, in the order of the net."""
    kept = chosen(net)
    return [pair for pair in net[1] if pair not in kept or count_rank(without_pair(net, pair)) == len(kept)]


def without_pair(net, pair):
    """The net without one of its pairs."""
    n, pairs = net
    return n, tuple([other for other in pairs if other != pair])


def fewest(net, offers):
    """The ascending list of the positions of the offers that make the net enough and cost least, or None."""
    n, pairs = net
    holder = Holder(n)
    for i, j in pairs:
        holder.take(i, j)
    found = []
    # Independent pairs may be taken greedily: what is cheap now never makes the rest dearer.
    for k in sorted(range(len(offers)), key=lambda position: offers[position][2]):
        if holder.take(offers[k][0], offers[k][1]):
            found.append(k)
    if not is_enough((n, list(pairs) + [offers[k][:2] for k in found])):
        return None
    return sorted(found)
