"""Points 11, 12, 13 and 15: whether answers are right."""

import copy
import unittest
from collections import Counter
from fractions import Fraction

from drawn_frames import KINDS, LARGE, drawn_frame, drawn_load, drawn_tensions, large_frame, load_of, noughts
from loadorloose.carrying import carry
from loadorloose.factors import greatest
from loadorloose.holding import hold, stiffen
from loadorloose.judging import is_carry, is_cheapest, is_greatest, is_hold, is_stiffen
from loadorloose.strengths import cheapest
from own_sums import right_carry, right_cheapest, right_greatest, right_hold, right_stiffen, value
from support import drawing, number_of

# What stands behind the word in the forms of the answers.
FORMS = {
    "tensions": ("tensions",), "motion": ("motion",), "most": ("number", "tensions", "motion"), "any": ("tensions",),
    "cost": ("number", "tensions", "many tensions", "many motions"), "never": ("position", "motion"),
    "held": ("integers",), "moves": ("motion",), "stiff": ("integers",), "bends": ("motion",),
}
WORDS = {
    is_carry: ("tensions", "motion"), is_greatest: ("most", "any"), is_cheapest: ("cost", "never"),
    is_hold: ("held", "moves"), is_stiffen: ("stiff", "bends"),
}
RIGHT = {
    is_carry: right_carry, is_greatest: right_greatest, is_cheapest: right_cheapest, is_hold: right_hold,
    is_stiffen: right_stiffen,
}
TELL = {is_carry: carry, is_greatest: greatest, is_cheapest: cheapest, is_hold: hold, is_stiffen: stiffen}
STEPS = (1, -1, LARGE, Fraction(1, 3), Fraction(-1, LARGE))


def with_item(items, k, item):
    """The tuple or list with another item in one place."""
    return type(items)(item if at == k else old for at, old in enumerate(items))


def changed(draw, kind, part):
    """A part of an answer with one of its integers or numbers changed; kind tells what it is."""
    if kind == "number":
        return number_of(value(part) + draw.choice(STEPS))
    if kind in ("integer", "position"):
        return part + draw.choice((1, -1, 2, -3, LARGE))
    inner = {
        "tensions": "number", "motion": "vector", "vector": "integer", "integers": "integer", "numbers": "number",
        "many tensions": "tensions", "many motions": "number motion", "number motion": "numbers",
    }[kind]
    if not part:
        return part
    k = draw.randrange(len(part))
    return with_item(part, k, changed(draw, inner, part[k]))


def times(part, factor):
    """A part of an answer with all integers, or all numbers' first integers, times an integer."""
    if isinstance(part, int):
        return part * factor
    return type(part)(times(item, factor) for item in part)


def scaled(kind, part, factor):
    """A part of an answer times an integer."""
    if kind == "position":
        return part
    if kind in ("motion", "integers"):
        return times(part, factor)
    if kind == "number":
        return number_of(value(part) * factor)
    if kind == "number motion":
        return tuple(tuple(number_of(value(n) * factor) for n in vector) for vector in part)
    inner = {"tensions": "number", "many tensions": "tensions", "many motions": "number motion"}[kind]
    return type(part)(scaled(inner, item, factor) for item in part)


class Checking(unittest.TestCase):
    def judge(self, judging, asked, answer):
        """Check what is told of an answer by the words of its point; return it."""
        kept = copy.deepcopy((asked, answer))
        found = judging(*asked, answer)
        self.assertIs(found, RIGHT[judging](*asked, answer), (judging.__name__, asked, answer))
        self.assertEqual((asked, answer), kept)
        return found

    def spoil(self, draw, judging, asked, found):
        """Check many answers that come of the program's own one; count the words and what is told of them."""
        answer = TELL[judging](*asked)
        self.assertIs(self.judge(judging, asked, answer), True)
        word, *parts = answer
        kinds = FORMS[word]
        for at, kind in enumerate(kinds):
            for _ in range(2):
                part = changed(draw, kind, parts[at])
                found[word, "changed", self.judge(judging, asked, (word, *with_item(parts, at, part)))] += 1
            for factor in (-1, 0, 3):
                part = scaled(kind, parts[at], factor)
                told = self.judge(judging, asked, (word, *with_item(parts, at, part)))
                found[word, factor, told] += 1
                if factor == 3 and kind in ("motion", "integers"):
                    self.assertIs(told, True)
        all_turned = [scaled(kind, part, -1) for kind, part in zip(kinds, parts)]
        found[word, "turned", self.judge(judging, asked, (word, *all_turned))] += 1
        for other in (*FORMS, "", "None"):
            if other not in WORDS[judging]:
                self.assertIs(judging(*asked, (other, *parts)), False)

    def spoil_pins(self, judging, asked, found):
        """Check that the program's own answer is wrong as soon as a pin moves."""
        answer = TELL[judging](*asked)
        word, *parts = answer
        for pin in asked[0][2]:
            for at, kind in enumerate(FORMS[word]):
                if kind == "motion":
                    moved = with_item(parts[at], pin, (0, 1))
                elif kind == "many motions":
                    moved = with_item(parts[at], 0, with_item(parts[at][0], pin, ((1, 7), (0, 1))))
                else:
                    continue
                self.assertIs(self.judge(judging, asked, (word, *with_item(parts, at, moved))), False)
                found[word] += 1


def drawn_asked(draw, judging, most=5):
    """Drawn arguments of one of the functions that tell answers."""
    frame = drawn_frame(draw, most)
    if judging in (is_hold, is_stiffen):
        return (frame,)
    loads = [load_of(draw, frame, drawn_tensions(draw, frame)), drawn_load(draw, frame)]
    if judging is is_cheapest:
        many = [draw.choice((loads[0], loads[0], loads[1])) for _ in range(draw.randint(1, 3))]
        return frame, tuple(draw.randint(1, 9) for _ in frame[1]), many
    return frame, draw.choice(loads)


class Spoiled(Checking):
    def test_answers_of_the_program(self):
        draw = drawing(361)
        found = Counter()
        for judging in TELL:
            for _ in range(200):
                self.spoil(draw, judging, drawn_asked(draw, judging), found)
        for word in FORMS:
            self.assertGreater(found[word, "changed", False], 5, word)
            self.assertGreater(found[word, "turned", False] + found[word, -1, False], 1, word)

    def test_pins_that_move(self):
        draw = drawing(362)
        found = Counter()
        for judging in TELL:
            for _ in range(150):
                self.spoil_pins(judging, drawn_asked(draw, judging), found)
        for word in ("motion", "most", "cost", "never", "moves", "bends"):
            self.assertGreater(found[word], 10, word)

    def test_answers_of_another_question(self):
        draw = drawing(363)
        found = Counter()
        for judging in TELL:
            for _ in range(60):
                frame, *rest = drawn_asked(draw, judging)
                answer = TELL[judging](frame, *rest)
                points, members, pins = frame
                limits = [None, 0, 1, 3]
                others = tuple(
                    m[:2] + draw.choice((m[2:], (draw.choice(limits), draw.choice(limits)))) for m in members
                )
                pinned = tuple(k for k in range(len(points)) if k in pins or draw.random() < 0.2)
                for other in ((points, others, pins), (points, members, pinned), (points, members, pins[1:])):
                    if "motion" in FORMS[answer[0]] or answer[0] == "cost" or other[2] == pins:
                        found[self.judge(judging, (other, *rest), answer)] += 1
        self.assertGreater(min(found.values()), 50)

    def test_drawn_answers(self):
        draw = drawing(364)
        found = Counter()
        for _ in range(4000):
            judging = draw.choice(list(TELL))
            asked = drawn_asked(draw, judging, 3)
            word = draw.choice(WORDS[judging])
            answer = drawn_answer(draw, word, asked)
            found[word, self.judge(judging, asked, answer)] += 1
        for word in FORMS:
            self.assertGreater(found[word, True], 0, word)
            self.assertGreater(found[word, False], 50, word)


def drawn_answer(draw, word, asked):
    """An answer of a form with drawn small integers."""
    frame = asked[0]
    points, members, pins = frame
    many = len(asked[2]) if len(asked) == 3 else 0

    def small():
        return draw.choice((0, 0, 1, -1))

    def motion():
        rests = draw.random() < 0.8
        return tuple((0, 0) if rests and k in pins else (small(), small()) for k in range(len(points)))

    def tensions():
        least = draw.choice((-1, 0))
        return tuple((draw.randint(least, 1), 1) for _ in members)

    drawn = {
        "tensions": tensions, "motion": motion, "integers": lambda: tuple(small() for _ in members),
        "number": lambda: (draw.choice((0, 0, 1)), 1), "position": lambda: draw.randint(-1, 3),
        "many tensions": lambda: [tensions() for _ in range(many)],
        "many motions": lambda: [tuple(tuple((n, 1) for n in v) for v in motion()) for _ in range(many)],
    }
    return (word, *(drawn[kind]() for kind in FORMS[word]))


class Known(Checking):
    """One member, and what is wrong about answers that are nearly right."""

    frame = (((0, 0), (2, 0)), ((0, 1, 3, 2),), (0,))

    def test_carry(self):
        right = ("tensions", ((3, 1),))
        self.assertIs(self.judge(is_carry, (self.frame, ((0, 0), (6, 0))), right), True)
        self.assertIs(self.judge(is_carry, (self.frame, ((0, 0), (5, 0))), right), False)
        # Balanced, but beyond the limit
        self.assertIs(self.judge(is_carry, (self.frame, ((0, 0), (7, 0))), ("tensions", ((7, 2),))), False)
        self.assertIs(self.judge(is_carry, (self.frame, ((0, 0), (-5, 0))), ("tensions", ((-5, 2),))), False)
        self.assertIs(self.judge(is_carry, (self.frame, ((9, 9), (-4, 0))), ("tensions", ((-2, 1),))), True)
        for force, motion, expected in (
            ((7, 0), (1, 0), True), ((7, 0), (5, 0), True), ((6, 0), (1, 0), False), ((7, 0), (-1, 0), False),
            ((7, 0), (0, 0), False), ((0, 1), (0, 1), True), ((0, 1), (0, -1), False), ((-5, 0), (-1, 0), True),
            ((-4, 0), (-1, 0), False), ((7, 1), (1, LARGE), True), ((7, -2), (1, 1), False),
        ):
            answer = ("motion", ((0, 0), motion))
            self.assertIs(self.judge(is_carry, (self.frame, ((5, 5), force)), answer), expected)
            self.assertIs(self.judge(is_carry, (self.frame, ((5, 5), force)), ("motion", ((1, 0), motion))), False)

    def test_carry_by_motions_that_are_not_allowed(self):
        frame = (((0, 0), (2, 0)), ((0, 1, None, 2),), (0,))
        self.assertIs(self.judge(is_carry, (frame, ((0, 0), (7, 1))), ("motion", ((0, 0), (1, 0)))), False)
        self.assertIs(self.judge(is_carry, (frame, ((0, 0), (7, 1))), ("motion", ((0, 0), (0, 1)))), True)

    def test_words_that_fit_other_forms(self):
        # As many members as joints: tensions have the form of a motion.
        frame = (((0, 0), (1, 0), (0, 1)), ((0, 1, None, None), (0, 2, None, None), (1, 2, None, None)), ())
        answer = carry(frame, noughts(frame))
        self.assertEqual(answer[0], "tensions")
        self.assertIs(self.judge(is_carry, (frame, noughts(frame)), ("motion", answer[1])), False)
        self.assertIs(is_hold(frame, ("moves", (0, 0, 0))), False)
        self.assertIs(is_stiffen(frame, ("stiff", ((0, 0), (0, 0), (0, 0)))), False)

    def test_greatest(self):
        asked = (self.frame, ((0, 0), (4, 0)))
        motion = ((0, 0), (1, 0))
        for answer, expected in (
            (("most", (3, 2), ((3, 1),), motion), True), (("most", (3, 2), ((3, 1),), ((0, 0), (7, 0))), True),
            (("most", (1, 1), ((2, 1),), motion), False), (("most", (2, 1), ((4, 1),), motion), False),
            (("most", (3, 2), ((3, 1),), ((0, 0), (-1, 0))), False),
            (("most", (3, 2), ((3, 1),), ((0, 0), (0, 1))), False),
            (("most", (3, 2), ((3, 1),), ((0, 0), (0, 0))), False),
            (("most", (3, 2), ((3, 1),), ((0, 1), (1, 0))), False),
            (("most", (3, 2), ((2, 1),), motion), False), (("most", (-1, 1), ((-2, 1),), ((0, 0), (-1, 0))), False),
            (("most", (-1, 1), ((-2, 1),), motion), False), (("any", ((2, 1),)), False), (("any", ((0, 1),)), False),
        ):
            self.assertIs(self.judge(is_greatest, asked, answer), expected)

    def test_greatest_of_nought(self):
        asked = (self.frame, ((0, 0), (4, 1)))
        answer = ("most", (0, 1), ((0, 1),), ((0, 0), (0, 3)))
        self.assertIs(self.judge(is_greatest, asked, answer), True)
        self.assertIs(self.judge(is_greatest, asked, ("most", (0, 1), ((0, 1),), ((0, 0), (0, -3)))), False)

    def test_factors_below_nought(self):
        # All but the sign of the factor is as for a right answer of the load turned about.
        frame = (((0, 0), (2, 0)), ((0, 1, 0, 5),), (0,))
        asked = (frame, ((0, 0), (2, 0)))
        self.assertIs(self.judge(is_greatest, asked, ("most", (0, 1), ((0, 1),), ((0, 0), (1, 0)))), True)
        self.assertIs(self.judge(is_greatest, asked, ("most", (-5, 1), ((-5, 1),), ((0, 0), (-1, 0)))), False)

    def test_any(self):
        for pull, push, force, expected in (
            (None, 2, 4, True), (3, 2, 4, False), (3, None, 4, False), (None, 2, -4, False), (3, None, -4, True),
            (None, None, -4, True), (3, 2, 0, True),
        ):
            frame = (((0, 0), (2, 0)), ((0, 1, pull, push),), (0,))
            asked = (frame, ((0, 0), (force, 0)))
            self.assertIs(self.judge(is_greatest, asked, ("any", (number_of(Fraction(force, 2)),))), expected)
            self.assertIs(self.judge(is_greatest, asked, ("any", ((1, 3),))), False)

    def test_cheapest(self):
        frame = (((0, 0), (2, 0)), ((0, 1, None, None),), (0,))
        asked = (frame, (5,), [((0, 0), (3, 0)), ((0, 0), (-8, 0))])
        rest, pulls = ((0, 1), (0, 1)), ((-5, 2), (0, 1))
        tensions, motions = [((3, 2),), ((-4, 1),)], [(rest, rest), (rest, pulls)]
        self.assertIs(self.judge(is_cheapest, asked, ("cost", (20, 1), ((4, 1),), tensions, motions)), True)
        for cost, strengths, some, others in (
            ((25, 1), ((5, 1),), tensions, motions), ((20, 1), ((5, 1),), tensions, motions),
            ((25, 1), ((4, 1),), tensions, motions), ((15, 1), ((3, 1),), tensions, motions),
            ((25, 1), ((5, 1),), tensions, [(rest, rest), (rest, ((-25, 8), (0, 1)))]),
            ((20, 1), ((4, 1),), tensions, [(rest, rest), (rest, ((-2, 1), (0, 1)))]),
            ((20, 1), ((4, 1),), tensions, [(rest, rest), (rest, rest)]),
            ((20, 1), ((4, 1),), tensions, [(rest, rest), (((0, 1), (1, 1)), pulls)]),
            ((20, 1), ((4, 1),), [((3, 2),), ((-3, 1),)], motions), ((20, 1), ((4, 1),), tensions[::-1], motions),
            ((20, 1), ((4, 1),), tensions, motions[::-1]), ((-20, 1), ((-4, 1),), tensions, motions),
        ):
            self.assertIs(self.judge(is_cheapest, asked, ("cost", cost, strengths, some, others)), False)

    def test_strengths_below_nought(self):
        # Nothing else is wrong: the members carry nothing, and their strengths cost nothing together.
        frame = (((0, 0), (2, 0), (4, 0)), ((0, 1, 0, 0), (1, 2, 0, 0)), (0, 1, 2))
        asked = (frame, (5, 5), [noughts(frame)])
        moved = [(((0, 1), (0, 1)),) * 3]
        for strengths, expected in ((((0, 1), (0, 1)), True), (((1, 1), (-1, 1)), False), (((-1, 9), (1, 9)), False)):
            answer = ("cost", (0, 1), strengths, [((0, 1), (0, 1))], moved)
            self.assertIs(self.judge(is_cheapest, asked, answer), expected)

    def test_never(self):
        frame = (((0, 0), (2, 0)), ((0, 1, None, 0),), (0,))
        asked = (frame, (5,), [((0, 0), (3, 0)), ((0, 0), (0, 1)), ((0, 0), (-1, 0))])
        for k, motion, expected in (
            (1, (0, 1), True), (1, (0, 9), True), (1, (-3, 1), True), (2, (-1, 0), True), (0, (0, 1), False),
            (0, (1, 0), False), (1, (1, 1), False), (2, (0, 1), False), (3, (0, 1), False), (-1, (-1, 0), False),
            (-2, (0, 1), False), (-3, (0, 1), False), (LARGE, (0, 1), False), (1, (0, -1), False), (1, (0, 0), False),
        ):
            self.assertIs(self.judge(is_cheapest, asked, ("never", k, ((0, 0), motion))), expected)
            self.assertIs(self.judge(is_cheapest, asked, ("never", k, ((0, 1), motion))), False)

    def test_hold(self):
        points = ((0, 0), (5, 0), (-4, 3), (-4, -3))
        members = tuple((0, k, None, 0) for k in (1, 2, 3))
        frame = (points, members, (1, 2, 3))
        _, tensions = hold(frame)
        self.assertIs(self.judge(is_hold, (frame,), ("held", tensions)), True)
        self.assertIs(self.judge(is_hold, (frame,), ("held", tuple(7 * t for t in tensions))), True)
        self.assertIs(self.judge(is_hold, (frame,), ("held", tuple(-t for t in tensions))), False)
        self.assertIs(self.judge(is_hold, (frame,), ("held", (0, 0, 0))), False)
        self.assertIs(self.judge(is_hold, (frame,), ("moves", noughts(frame))), False)
        self.assertIs(self.judge(is_hold, (frame,), ("moves", ((0, 0), (0, 1), (0, 0), (0, 0)))), False)
        free = (points, members, ())
        self.assertIs(self.judge(is_hold, (free,), ("moves", ((1, 2),) * 4)), True)
        self.assertIs(self.judge(is_hold, (free,), ("moves", noughts(free))), False)
        bars = (points, tuple((0, k, None, None) for k in (1, 2)), (1, 2))
        # Proper, but a joint is loose.
        self.assertIs(self.judge(is_hold, (bars,), ("held", (0, 0))), False)
        self.assertIs(self.judge(is_hold, (bars,), ("moves", ((0, 0), (0, 0), (0, 0), (3, -7)))), True)

    def test_stiffen(self):
        points = ((0, 0), (4, 0), (0, 3))
        bars = ((0, 1, None, None), (0, 2, None, None), (1, 2, None, None))
        frame = (points, bars, ())
        self.assertIs(self.judge(is_stiffen, (frame,), ("stiff", (0, 0, 0))), True)
        self.assertIs(self.judge(is_stiffen, (frame,), ("stiff", (1, 0, 0))), False)
        self.assertIs(self.judge(is_stiffen, (frame,), ("bends", ((0, 0), (0, 4), (-3, 0)))), False)
        fewer = (points, bars[:2], ())
        self.assertIs(self.judge(is_stiffen, (fewer,), ("stiff", (0, 0))), False)
        for motion, expected in (
            (((0, 0), (0, 4), (-3, 0)), False), (((1, 2), (1, 6), (-2, 2)), False), (noughts(frame), False),
            (((0, 0), (0, 4), (0, 0)), True), (((0, 0), (0, 0), (-9, 0)), True), (((0, 0), (1, 4), (0, 0)), False),
        ):
            self.assertIs(self.judge(is_stiffen, (fewer,), ("bends", motion)), expected)
        slack = (points, bars[:2] + ((1, 2, None, 0),), ())
        self.assertIs(self.judge(is_stiffen, (slack,), ("bends", ((0, 0), (0, 4), (0, 0)))), True)
        self.assertIs(self.judge(is_stiffen, (slack,), ("bends", ((0, 0), (0, -4), (0, 0)))), False)

    def test_nothing(self):
        empty = ((), (), ())
        for judging, asked, right, wrong in (
            (is_carry, (empty, ()), ("tensions", ()), ("motion", ())),
            (is_greatest, (empty, ()), ("any", ()), ("most", (0, 1), (), ())),
            (is_cheapest, (empty, (), [()]), ("cost", (0, 1), (), [()], [()]), ("never", 0, ())),
            (is_hold, (empty,), ("held", ()), ("moves", ())), (is_stiffen, (empty,), ("stiff", ()), ("bends", ())),
        ):
            self.assertIs(self.judge(judging, asked, right), True)
            self.assertIs(self.judge(judging, asked, wrong), False)
        self.assertIs(self.judge(is_cheapest, (empty, (), [()]), ("cost", (1, 1), (), [()], [()])), False)


class Forms(unittest.TestCase):
    """Answers that have none of the forms are told to be wrong, too."""

    def test_parts_of_other_kinds(self):
        frame = (((0, 0), (2, 0)), ((0, 1, 3, 2),), (0,))
        load, moved = ((0, 0), (4, 0)), ((0, 0), (1, 0))
        rest = ((0, 1), (0, 1))
        asked = {
            is_carry: (frame, load), is_greatest: (frame, load), is_hold: (frame,), is_stiffen: (frame,),
            is_cheapest: (frame, (5,), [noughts(frame)]),
        }
        for judging, right, wrong in (
            (is_carry, ("tensions", ((2, 1),)), (((4, 2),), ((-2, -1),), ((2, 1), (0, 1)), (), (2,), [(2, 1)], 2)),
            (is_greatest, ("most", (3, 2), ((3, 1),), moved), ()),
            (is_cheapest, ("cost", (0, 1), ((0, 1),), [((0, 1),)], [(rest, rest)]), ()),
            (is_stiffen, ("bends", moved), (moved[:1], moved + ((0, 0),), rest, (0, 1), [(0, 0), (1, 0)], 7)),
            (is_hold, ("moves", moved), (moved[:1], moved + ((0, 0),), rest, (0, 1), [(0, 0), (1, 0)], 7)),
        ):
            self.assertIs(judging(*asked[judging], right), True)
            self.assertIs(judging(*asked[judging], right[:-1]), False)
            self.assertIs(judging(*asked[judging], right + ((),)), False)
            for part in wrong:
                self.assertIs(judging(*asked[judging], (right[0], part)), False, part)

    def test_parts_of_other_kinds_among_several(self):
        frame = (((0, 0), (2, 0)), ((0, 1, 3, 2),), (0,))
        moved, tensions = ((0, 0), (1, 0)), ((3, 1),)
        for answer in (
            ("most", (6, 4), tensions, moved), ("most", 1, tensions, moved), ("most", (3, 2), ((6, 2),), moved),
            ("most", (3, 2), (), moved), ("most", (3, 2), tensions, moved[:1]), ("any", ((0, 2),)), ("any", ()),
        ):
            self.assertIs(is_greatest(frame, ((0, 0), (4, 0)), answer), False)
        self.assertIs(is_greatest(frame, noughts(frame), ("any", ((0, 2),))), False)
        asked = (frame, (5,), [noughts(frame)])
        rest = ((0, 1), (0, 1))
        strengths, some, motions = ((0, 1),), [((0, 1),)], [(rest, rest)]
        for answer in (
            ("cost", (0, 1), (), some, motions), ("cost", (0, 1), strengths, [], motions),
            ("cost", (0, 1), strengths, some * 2, motions), ("cost", (0, 1), strengths, [((0, 2),)], motions),
            ("cost", (0, 1), strengths, [()], motions), ("cost", (0, 1), strengths, some, []),
            ("cost", (0, 1), strengths, some, motions * 2), ("cost", (0, 1), strengths, some, [noughts(frame)]),
            ("cost", (0, 1), strengths, some, [(rest,)]), ("cost", (0, 1), strengths, some, [(rest, rest, rest)]),
            ("cost", 0, strengths, some, motions), ("never", 0, (rest, rest)), ("never", "0", moved),
        ):
            self.assertIs(is_cheapest(*asked, answer), False)


class Large(Checking):
    def test_greatest_counts(self):
        draw = drawing(365)
        found = Counter()
        for kind in KINDS:
            for pins in (0, 2):
                frame = large_frame(draw, kind, pins)
                for load in (drawn_load(draw, frame, LARGE), load_of(draw, frame, drawn_tensions(draw, frame, LARGE))):
                    self.spoil(draw, is_carry, (frame, load), found)
                    self.spoil(draw, is_greatest, (frame, load), found)
                self.spoil(draw, is_hold, (frame,), found)
                self.spoil(draw, is_stiffen, (frame,), found)
                small = large_frame(draw, kind, pins, "far", 8, 14)
                loads = [load_of(draw, small, drawn_tensions(draw, small, 10 ** 8)) for _ in range(3)]
                self.spoil(draw, is_cheapest, (small, tuple(draw.randint(1, 1000) for _ in range(14)), loads), found)

    def test_large_integers_and_denominators(self):
        draw = drawing(366)
        frame = large_frame(draw, "both", 2)
        load = drawn_load(draw, frame, LARGE)
        numbers = tuple(number_of(Fraction(draw.randint(-LARGE, LARGE), draw.randint(1, LARGE))) for _ in frame[1])
        motion = tuple((0, 0) if k in frame[2] else (draw.randint(1, LARGE), LARGE) for k in range(16))
        self.judge(is_carry, (frame, load), ("tensions", numbers))
        self.judge(is_carry, (frame, load), ("motion", motion))
        self.judge(is_greatest, (frame, load), ("most", (LARGE, LARGE - 1), numbers, motion))
        self.judge(is_greatest, (frame, load), ("any", numbers))
        self.judge(is_hold, (frame,), ("held", tuple(n for n, _ in numbers)))
        self.judge(is_hold, (frame,), ("moves", motion))
        self.judge(is_stiffen, (frame,), ("bends", motion))


if __name__ == "__main__":
    unittest.main()
