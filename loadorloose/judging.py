"""Whether answers are right (points 11, 12, 13 and 15). One that has none of the forms of its point is not."""

from loadorloose.forms import are_integers, are_numbers, is_motion, is_number, is_number_motion
from loadorloose.frames import are_within, carries, is_allowed, is_met, missing, resistance, work
from loadorloose.holding import is_proper, is_rigid, unresisted
from loadorloose.numbers import less, minus, sign, summed, times
from loadorloose.strengths import price, use


def is_carry(frame, load, answer):
    """Whether the answer is a right one of `carry`."""
    if has_word(answer, "tensions", 1):
        return are_numbers(answer[1], len(frame[1])) and carries(frame, load, answer[1])
    if has_word(answer, "motion", 1):
        return may_move(frame, answer[1]) and work(load, answer[1]) > resistance(frame, answer[1])
    return False


def has_word(answer, word, count):
    """Whether the answer has this word, and so many parts behind it."""
    return answer[0] == word and len(answer) == 1 + count


def may_move(frame, motion):
    """Whether this is an allowed motion, with noughts at the pins."""
    return is_motion(frame, motion) and is_allowed(frame, motion)


def is_greatest(frame, load, answer):
    """Whether the answer is a right one of `greatest`."""
    if has_word(answer, "most", 3):
        _, factor, tensions, motion = answer
        return bears(frame, load, factor, tensions) and stops(frame, load, factor, motion)
    if has_word(answer, "any", 1):
        tensions = answer[1]
        return are_numbers(tensions, len(frame[1])) and carries(frame, load, tensions) and may_grow(frame[1], tensions)
    return False


def bears(frame, load, factor, tensions):
    """Whether this is a factor, not below nought, and the tensions carry the load times the factor."""
    if not is_number(factor) or factor[0] < 0 or not are_numbers(tensions, len(frame[1])):
        return False
    n, d = factor
    grown_load = [(n * x, n * y) for x, y in load]
    lacking = missing(frame, grown_load, [times((d, 1), tension) for tension in tensions])
    return are_within(frame[1], tensions) and is_met(frame, lacking)


def stops(frame, load, factor, motion):
    """Whether the load works in the motion, and its work times the factor is the resistance."""
    if not may_move(frame, motion):
        return False
    done = work(load, motion)
    return done > 0 and factor[0] * done == factor[1] * resistance(frame, motion)


def may_grow(members, tensions):
    """Whether no tension is above nought where the pull has a limit, or below nought where the push has one."""
    for (_, _, pull, push), tension in zip(members, tensions):
        if (tension[0] > 0 and pull is not None) or (tension[0] < 0 and push is not None):
            return False
    return True


def is_cheapest(frame, costs, loads, answer):
    """Whether the answer is a right one of `cheapest`."""
    if has_word(answer, "cost", 4):
        _, cost, strengths, tensions, motions = answer
        if not are_numbers(strengths, len(costs)) or price(costs, strengths) != cost:
            return False
        return suffice(frame, loads, strengths, tensions) and are_worth(frame, costs, loads, cost, motions)
    if has_word(answer, "never", 2):
        _, k, motion = answer
        if not isinstance(k, int) or not 0 <= k < len(loads) or not is_motion(frame, motion):
            return False
        return not any([use(frame, at, motion) > 0 for at in range(len(costs))]) and work(loads[k], motion) > 0
    return False


def suffice(frame, loads, strengths, tensions):
    """Whether no strength is below nought, and the tensions, within the strengths, carry the loads."""
    if any([strength[0] < 0 for strength in strengths]) or len(tensions) != len(loads):
        return False
    for load, some in zip(loads, tensions):
        if not are_numbers(some, len(frame[1])) or not is_met(frame, missing(frame, load, some)):
            return False
        if not are_strong(frame[1], strengths, some):
            return False
    return True


def are_strong(members, strengths, tensions):
    """Whether each tension is within the strength of its member, or nought where its limit is 0."""
    for (_, _, pull, push), strength, tension in zip(members, strengths, tensions):
        if sign(tension) > 0 and (pull == 0 or less(strength, tension)):
            return False
        if sign(tension) < 0 and (push == 0 or less(strength, minus((0, 1), tension))):
            return False
    return True


def are_worth(frame, costs, loads, cost, motions):
    """Whether no member is used in these motions for more than it costs, and the loads work in them what is told."""
    if len(motions) != len(loads) or not all([is_number_motion(frame, motion) for motion in motions]):
        return False
    for k, own_cost in enumerate(costs):
        if less((own_cost, 1), summed([use(frame, k, motion) for motion in motions])):
            return False
    # Without joints a work is told as an integer.
    return summed([work(load, motion) for load, motion in zip(loads, motions) if motion]) == cost


def is_hold(frame, answer):
    """Whether the answer is a right one of `hold`."""
    if has_word(answer, "held", 1):
        return are_proper(frame, answer[1]) and not unresisted(frame)
    if has_word(answer, "moves", 1):
        return may_move(frame, answer[1]) and any([vector != (0, 0) for vector in answer[1]])
    return False


def is_stiffen(frame, answer):
    """Whether the answer is a right one of `stiffen`."""
    points = frame[0]
    if has_word(answer, "stiff", 1):
        return are_proper(frame, answer[1]) and all([is_rigid(points, motion) for motion in unresisted(frame)])
    if has_word(answer, "bends", 1):
        return may_move(frame, answer[1]) and not is_rigid(points, answer[1])
    return False


def are_proper(frame, tensions):
    """Whether this is a tuple of integers, one for each member, that are proper tensions."""
    return are_integers(tensions, len(frame[1])) and is_proper(frame, tensions)
