"""Going from place to place."""


def reached(ways, start):
    """A dict of the places to which ways lead from the start, each with the place before it; the start has None.

    `ways` has for each place the list of those to which a way leads.
    """
    before = {start: None}
    waiting = [start]
    while waiting:
        place = waiting.pop()
        for other in ways[place]:
            if other not in before:
                before[other] = place
                waiting.append(other)
    return before
