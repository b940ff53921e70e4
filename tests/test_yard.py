"""Point 28: yards."""

import copy
import unittest
from collections import Counter

from drawn_frames import KINDS, drawn_frame, drawn_load, large_frame
from drawn_nets import all_pairs
from loadorloose.carrying import carry
from loadorloose.errors import LoadError, NoSuchFrame
from loadorloose.factors import greatest
from loadorloose.grids import grid_frame
from loadorloose.holding import hold, stiffen
from loadorloose.yard import Yard
from own_sums import right_carry, right_greatest, right_hold, right_stiffen
from support import drawing

EMPTY = ((), (), ())
NAMES = ("bridge", "roof", "a", "B", "", "mast 2", "tower", "10", "9")


class Own:
    """A frame that the test changes itself: lists of joints, members and pins."""

    def __init__(self, frame):
        self.points, self.members, self.pins = (list(part) for part in frame)

    def frame(self):
        """The frame as it is."""
        return tuple(self.points), tuple(self.members), tuple(sorted(self.pins))

    def add_joint(self, point):
        self.points.append(point)

    def add_member(self, member):
        self.members.append(member)

    def drop_member(self, k):
        del self.members[k]

    def move(self, joint, point):
        self.points[joint] = point

    def pin(self, joint):
        self.pins.append(joint)

    def free(self, joint):
        self.pins.remove(joint)

    def limit(self, k, pull, push):
        self.members[k] = (*self.members[k][:2], pull, push)


def drawn_change(draw, own):
    """A change that a frame allows: the name of the method and its arguments."""
    points, members, pins = own.frame()
    place = (draw.randint(-4, 4), draw.randint(-4, 4))
    limits = draw.choice(KINDS[draw.choice(tuple(KINDS))])
    free_pairs = [
        pair for pair in all_pairs(len(points))
        if pair not in [member[:2] for member in members] and points[pair[0]] != points[pair[1]]
    ]
    changes = []
    if len(points) < 8:
        changes += [("add_joint", place)] * 2
    if free_pairs:
        changes += [("add_member", draw.choice(free_pairs) + limits)] * 3
    if members:
        k = draw.randrange(len(members))
        changes += [("drop_member", k), ("limit", k) + limits, ("limit", k) + limits]
    if points:
        joint = draw.randrange(len(points))
        ends = [points[i + j - joint] for i, j, *_ in members if joint in (i, j)]
        if place not in ends:
            changes += [("move", joint, place)] * 2
        changes.append(("free" if joint in pins else "pin", joint))
    return draw.choice(changes)


class Changes(unittest.TestCase):
    def check_all(self, yard, owns):
        """Check all frames of a yard, and their names."""
        names = yard.names()
        self.assertIs(type(names), list)
        self.assertEqual(names, sorted(owns))
        for name, own in owns.items():
            frame = yard.frame(name)
            self.assertEqual(frame, own.frame())
            self.assertEqual([type(part) for part in frame], [tuple] * 3)
            self.assertTrue(all(type(item) is tuple for item in frame[0] + frame[1]))

    def test_drawn_changes(self):
        draw = drawing(561)
        done = Counter()
        for _ in range(25):
            yard, owns = Yard(), {}
            self.check_all(yard, owns)
            for _ in range(80):
                name = draw.choice(NAMES[:draw.choice((2, 4, 9))])
                if name not in owns or draw.random() < 0.05:
                    frame = draw.choice((EMPTY, drawn_frame(draw, 5)))
                    kept = copy.deepcopy(frame)
                    self.assertIsNone(yard.put(name, frame))
                    self.assertEqual(frame, kept)
                    owns[name] = Own(frame)
                else:
                    word, *given = drawn_change(draw, owns[name])
                    self.assertIsNone(getattr(yard, word)(name, *given))
                    getattr(owns[name], word)(*given)
                    done[word] += 1
                self.check_all(yard, owns)
        self.assertEqual(len(done), 7)
        self.assertGreater(min(done.values()), 30)

    def test_each_change(self):
        yard = Yard()
        frame = (((0, 0), (2, 0), (0, 3)), ((0, 1, None, None), (1, 2, 5, 0)), (1,))
        for change, expected in (
            (("add_joint", (7, -7)), (frame[0] + ((7, -7),), frame[1], frame[2])),
            (("add_joint", (0, 0)), (frame[0] + ((0, 0),), frame[1], frame[2])),
            (("add_member", (0, 2, 0, 9)), (frame[0], frame[1] + ((0, 2, 0, 9),), frame[2])),
            (("drop_member", 0), (frame[0], frame[1][1:], frame[2])),
            (("drop_member", 1), (frame[0], frame[1][:1], frame[2])),
            (("move", 0, (-1, 1)), (((-1, 1), (2, 0), (0, 3)), frame[1], frame[2])),
            (("move", 2, (5, 5)), (((0, 0), (2, 0), (5, 5)), frame[1], frame[2])),
            (("pin", 0), (frame[0], frame[1], (0, 1))), (("pin", 2), (frame[0], frame[1], (1, 2))),
            (("free", 1), (frame[0], frame[1], ())),
            (("limit", 0, 3, None), (frame[0], ((0, 1, 3, None), frame[1][1]), frame[2])),
            (("limit", 1, None, 10 ** 40), (frame[0], (frame[1][0], (1, 2, None, 10 ** 40)), frame[2])),
        ):
            yard.put("x", frame)
            yard.put("y", frame)
            self.assertIsNone(getattr(yard, change[0])("x", *change[1:]))
            self.assertEqual(yard.frame("x"), expected)
            self.assertEqual(yard.frame("y"), frame)

    def test_from_nothing(self):
        yard = Yard()
        yard.put("new", EMPTY)
        yard.add_joint("new", (0, 0))
        yard.add_joint("new", (2, 0))
        yard.add_member("new", (0, 1, None, None))
        self.assertEqual(yard.stiffen("new")[0], "stiff")
        self.assertEqual(yard.hold("new")[0], "moves")
        yard.pin("new", 0)
        yard.pin("new", 1)
        self.assertEqual(yard.hold("new"), ("held", (0,)))
        yard.free("new", 1)
        self.assertEqual(yard.carry("new", ((0, 0), (3, 0))), ("tensions", ((3, 2),)))
        yard.limit("new", 0, 4, None)
        self.assertEqual(yard.greatest("new", ((0, 0), (3, 0))), ("most", (8, 3), ((4, 1),), ((0, 0), (1, 0))))
        yard.drop_member("new", 0)
        self.assertEqual(yard.frame("new"), (((0, 0), (2, 0)), (), (0,)))

    def test_a_frame_put_anew(self):
        yard = Yard()
        yard.put("x", (((0, 0),), (), ()))
        yard.put("y", EMPTY)
        yard.put("x", (((5, 5), (6, 6)), (), (1,)))
        self.assertEqual(yard.names(), ["x", "y"])
        self.assertEqual(yard.frame("x"), (((5, 5), (6, 6)), (), (1,)))
        self.assertEqual(yard.frame("y"), EMPTY)
        yard.put("x", yard.frame("y"))
        yard.add_joint("y", (1, 2))
        self.assertEqual(yard.frame("x"), EMPTY)

    def test_names(self):
        yard = Yard()
        self.assertEqual(yard.names(), [])
        for name in NAMES:
            yard.put(name, EMPTY)
        self.assertEqual(yard.names(), ["", "10", "9", "B", "a", "bridge", "mast 2", "roof", "tower"])
        yard.names().clear()
        self.assertEqual(len(yard.names()), 9)

    def test_yards_share_nothing(self):
        yard, other = Yard(), Yard()
        yard.put("x", EMPTY)
        self.assertEqual(other.names(), [])
        other.put("x", EMPTY)
        yard.add_joint("x", (1, 1))
        self.assertEqual(other.frame("x"), EMPTY)

    def test_a_frame_that_was_told_stays_as_it_is(self):
        yard = Yard()
        yard.put("x", (((0, 0), (1, 0)), ((0, 1, 1, 1),), ()))
        told = yard.frame("x")
        kept = copy.deepcopy(told)
        yard.move("x", 0, (9, 9))
        yard.limit("x", 0, None, None)
        yard.pin("x", 1)
        self.assertEqual(told, kept)


class Missing(unittest.TestCase):
    def test_names_that_are_not_there(self):
        frame = (((0, 0), (2, 0)), ((0, 1, None, None),), (0,))
        load = ((0, 0), (3, 0))
        for kept in ((), ("bridge",), ("bridge", "roof")):
            yard = Yard()
            for name in kept:
                yard.put(name, frame)
            for name in ("mast", "", "Bridge", "bridge ", "brid"):
                for word, given in (
                    ("frame", ()), ("add_joint", ((1, 1),)), ("add_member", ((0, 1, None, 0),)), ("drop_member", (0,)),
                    ("move", (0, (5, 5))), ("pin", (1,)), ("free", (0,)), ("limit", (0, 1, 1)), ("carry", (load,)),
                    ("greatest", (load,)), ("hold", ()), ("stiffen", ()), ("drop_member", (7,)), ("free", (5,)),
                ):
                    with self.assertRaises(NoSuchFrame) as caught:
                        getattr(yard, word)(name, *given)
                    self.assertIsInstance(caught.exception, LoadError)
                    self.assertEqual(caught.exception.name, name)
                    self.assertEqual(yard.names(), sorted(kept))
                    for other in kept:
                        self.assertEqual(yard.frame(other), frame)


class Answers(unittest.TestCase):
    def check(self, yard, name, frame, load):
        """Check the answers for a frame and a load; return their words."""
        kept = copy.deepcopy((frame, load))
        answers = (yard.carry(name, load), yard.greatest(name, load), yard.hold(name), yard.stiffen(name))
        self.assertEqual((frame, load), kept)
        self.assertEqual(yard.frame(name), frame)
        self.assertTrue(right_carry(frame, load, answers[0]))
        self.assertTrue(right_greatest(frame, load, answers[1]))
        self.assertTrue(right_hold(frame, answers[2]))
        self.assertTrue(right_stiffen(frame, answers[3]))
        self.assertEqual(answers, (carry(frame, load), greatest(frame, load), hold(frame), stiffen(frame)))
        return [answer[0] for answer in answers]

    def test_drawn(self):
        draw = drawing(562)
        words = Counter()
        for _ in range(40):
            yard = Yard()
            owns = {}
            for name in NAMES[:2]:
                owns[name] = Own(drawn_frame(draw, 5))
                yard.put(name, owns[name].frame())
            for _ in range(4):
                name = draw.choice(NAMES[:2])
                word, *given = drawn_change(draw, owns[name])
                getattr(yard, word)(name, *given)
                getattr(owns[name], word)(*given)
                frame = owns[name].frame()
                words.update(self.check(yard, name, frame, drawn_load(draw, frame)))
        for word in ("tensions", "motion", "most", "any", "held", "moves", "stiff", "bends"):
            self.assertGreater(words[word], 5, words)

    def test_grids_and_large_frames(self):
        draw = drawing(563)
        yard = Yard()
        frames = [grid_frame(3, 3, [(k, k, "bar") for k in range(3)])]
        frames += [large_frame(draw, kind, 3) for kind in ("ropes", "large")]
        for k, frame in enumerate(frames):
            yard.put(str(k), frame)
            self.check(yard, str(k), frame, drawn_load(draw, frame))


if __name__ == "__main__":
    unittest.main()
