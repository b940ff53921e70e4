"""Tensions that carry a load, or a motion that drives it (point 11)."""

from loadorloose.motions import limited_ways, load_cells, lowest_motion, member_rows
from loadorloose.programs import maximize


def carry(frame, load):
    """("tensions", tensions) with tensions that carry the load, or ("motion", motion) with one that drives it."""
    ways, limits = limited_ways(frame[1])
    rows = [tuple(row) for row in member_rows(frame, ways)]
    # The gain is the work less the resistance: either none is greater than nought, or it grows for ever.
    gains = load_cells(frame, load) + [-limit for limit in limits]
    answer = maximize(rows, [0] * len(rows), tuple(gains))
    if answer[0] == "most":
        return "tensions", answer[2]
    return "motion", lowest_motion(frame, answer[2])
