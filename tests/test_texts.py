"""Point 27: frames as texts."""

import copy
import re
import unittest
from collections import Counter

from drawn_frames import KINDS, drawn_frame, large_frame
from loadorloose.errors import BadText, LoadError
from loadorloose.texts import read_frame, write_frame
from support import drawing

INTEGER = "(0|-?[1-9][0-9]*)"
LIMIT = "(-|0|[1-9][0-9]*)"
GOOD = "joint 0 0\njoint 4 0\njoint -3 5\nmember 0 1 - 0\nmember 1 2 7 -\npin 0\npin 2\n"
LINES = GOOD.split("\n")[:-1]


def own_text(frame):
    """The text of a frame by the words of point 27."""
    points, members, pins = frame
    found = "".join(f"joint {x} {y}\n" for x, y in points)
    for i, j, *limits in members:
        found += f"member {i} {j} " + " ".join("-" if n is None else str(n) for n in limits) + "\n"
    return found + "".join(f"pin {pin}\n" for pin in pins)


def own_read(text):
    """The frame of a text, or the number of the first line that cannot stand."""
    points, members, pins = [], [], []
    for at, line in enumerate(re.findall("[^\n]*\n|[^\n]+$", text)):
        joint = re.fullmatch(f"joint {INTEGER} {INTEGER}\n", line)
        member = re.fullmatch(f"member {INTEGER} {INTEGER} {LIMIT} {LIMIT}\n", line)
        pin = re.fullmatch(f"pin {INTEGER}\n", line)
        if joint and not members and not pins:
            points.append(tuple(map(int, joint.groups())))
        elif member and not pins:
            i, j = map(int, member.groups()[:2])
            if not 0 <= i < j < len(points) or points[i] == points[j] or (i, j) in [m[:2] for m in members]:
                return at + 1
            members.append((i, j) + tuple(None if word == "-" else int(word) for word in member.groups()[2:]))
        elif pin and int(pin[1]) in range(pins[-1] + 1 if pins else 0, len(points)):
            pins.append(int(pin[1]))
        else:
            return at + 1
    return tuple(points), tuple(members), tuple(pins)


class Checking(unittest.TestCase):
    def check_frame(self, frame):
        """Check the text of a frame, and the way back; return the text."""
        kept = copy.deepcopy(frame)
        text = write_frame(frame)
        self.assertEqual(frame, kept)
        self.assertEqual(text, own_text(frame))
        self.assertEqual(self.check_text(text), frame)
        return text

    def check_text(self, text, bad=None):
        """Check what is read of a text, whose first bad line may be given; return the frame, or the number."""
        expected = own_read(text)
        if bad is not None:
            self.assertEqual(expected, bad, text)
        if isinstance(expected, tuple):
            found = read_frame(text)
            self.assertEqual(found, expected)
            self.assertEqual([type(part) for part in found], [tuple] * 3)
            for item in found[0] + found[1]:
                self.assertIs(type(item), tuple)
            return found
        with self.assertRaises(BadText) as caught:
            read_frame(text)
        self.assertIsInstance(caught.exception, LoadError)
        self.assertIs(type(caught.exception.line), int)
        self.assertEqual(caught.exception.line, expected, text)
        return expected


class There(Checking):
    def test_example(self):
        text = "joint 0 0\njoint 2 -1\nmember 0 1 - 0\npin 1\n"
        self.assertEqual(self.check_frame((((0, 0), (2, -1)), ((0, 1, None, 0),), (1,))), text)

    def test_nothing(self):
        self.assertEqual(write_frame(((), (), ())), "")
        self.assertEqual(read_frame(""), ((), (), ()))
        self.check_frame(((), (), ()))

    def test_joints_alone_and_pins_alone(self):
        self.check_frame((((3, 4),), (), ()))
        self.check_frame((((3, 4), (3, 4)), (), (0, 1)))
        self.check_frame((((3, 4), (0, -1000)), (), (1,)))

    def test_drawn(self):
        draw = drawing(541)
        for kind in KINDS:
            for _ in range(50):
                self.check_frame(drawn_frame(draw, 6, (kind,)))

    def test_as_many_lines_as_there_may_be(self):
        draw = drawing(542)
        for kind in KINDS:
            self.check_frame(large_frame(draw, kind, 16))
        points = tuple((k, -k) for k in range(40))
        members = tuple((k, k + 1, None, k) for k in range(39))
        self.assertEqual(self.check_frame((points, members, tuple(range(0, 40, 2)))).count("\n"), 99)

    def test_long_integers(self):
        for n in (10 ** 30 - 1, 10 ** 63, 10 ** 64 - 1, 10 ** 64, 10 ** 64 + 7, 10 ** 128, 12 * 10 ** 200 + 10 ** 64):
            for sign in (1, -1):
                self.check_frame((((0, sign * n), (sign * n, 1)), ((0, 1, n, n + 1),), (0, 1)))

    def test_integers_longer_than_python_writes(self):
        for n in (10 ** 6000, 10 ** 6400 + 10 ** 64, 7 ** 9999):
            frame = (((0, 0), (1, 0)), ((0, 1, n, None),), ())
            text = write_frame(frame)
            self.assertRegex(text, "^joint 0 0\njoint 1 0\nmember 0 1 [1-9][0-9]+ -\n$")
            word = text.split(" ")[-2]
            parts = [int(word[::-1][at:at + 100][::-1]) for at in range(0, len(word), 100)]
            self.assertEqual(sum(part * 10 ** (100 * at) for at, part in enumerate(parts)), n)
            self.assertTrue(read_frame(text) == frame)


class Bad(Checking):
    def bad_line(self, line, before=3, after=("member 0 1 - 0", "pin 0")):
        """Check that a line cannot stand behind so many good ones, whatever follows; one that can is told apart."""
        for rest in (after, (), ("nothing",)):
            text = "".join(some + "\n" for some in [*LINES[:before], line, *rest])
            self.check_text(text, before + 1)

    def test_good(self):
        self.check_text(GOOD)
        self.assertEqual(read_frame(GOOD)[2], (0, 2))

    def test_lines_that_are_none(self):
        for line in (
            "", " ", "joint", "joint 1", "joint 1 2 3", "joint 1 ", "joint  1 2", " joint 1 2", "joint 1 2 ", "joint1 2",
            "joint 1,2", "Joint 1 2", "JOINT 1 2", "joints 1 2", "point 1 2", "1 2", "member", "member 0", "member 0 1",
            "member 0 1 -", "member 0 1 - - -", "member 0 1 - - ", "member  0 1 - -", "member 0 1 -  -", " member 0 1 - -",
            "Member 0 1 - -", "members 0 1 - -", "pin", "pin ", "pin 0 1", "pin  0", " pin 0", "pin 0 ", "Pin 0", "pins 0",
            "# joint 1 2", "joint 0 0 # here", "-", "0", "joint - 0", "joint 0 -", "member - 1 0 0", "member 0 - 0 0",
            "pin -", "member 0 1 -- 0", "member 0 1 none 0", "member 0 1 None 0", "joint x y", "joint 1.0 2", "joint 1e3 2",
            "joint 0x1 2", "joint 1_0 2", "joint ' 2", "joint 1 2;", "joint 1/2 0", "joint (1, 2)",
        ):
            self.bad_line(line)

    def test_integers_that_are_written_otherwise(self):
        for word in ("00", "01", "+1", "-0", "-01", "--1", "-+1", "+0", "1-", "1 0", "000", "- 1", "+", "-00", "0-1"):
            self.bad_line(f"joint {word} 0")
            self.bad_line(f"joint 0 {word}")
            self.bad_line(f"member {word} 2 - -")
            self.bad_line(f"member 0 {word} - -")
            self.bad_line(f"member 0 1 {word} -")
            self.bad_line(f"member 0 1 - {word}")
            self.bad_line(f"pin {word}")

    def test_order(self):
        for before, line in ((4, "joint 1 2"), (5, "joint 1 2"), (6, "joint 1 2"), (7, "joint 1 2"),
                             (6, "member 0 2 - -"), (7, "member 0 2 - -")):
            self.bad_line(line, before, ("pin 2",))
        self.check_text("joint 0 0\npin 0\njoint 1 1\n", 3)
        self.check_text("joint 0 0\njoint 1 1\npin 0\nmember 0 1 - -\n", 4)
        self.check_text("member 0 1 - -\njoint 0 0\njoint 1 1\n", 1)
        self.check_text("pin 0\njoint 0 0\n", 1)
        self.check_text("joint 0 0\nmember 0 1 - -\njoint 1 1\n", 2)

    def test_members(self):
        for line in (
            "member 0 3 - -", "member 3 4 - -", "member -1 0 - -", "member 1 0 - -", "member 2 2 - -", "member 2 1 - -",
            "member 0 1 -1 -", "member 0 1 - -1", "member 0 1 -7 -8", "member 0 10 - -", "member 0 " + "9" * 30 + " - -",
            "member 0 1 -" + "9" * 30 + " -",
        ):
            self.bad_line(line)
        for line in ("member 0 1 - -", "member 0 1 5 5", "member 1 2 - 0", "member 1 2 7 -"):
            self.bad_line(line, 5, ("pin 0",))
        twins = "joint 4 1\njoint 4 1\njoint 4 2\n"
        self.check_text(twins + "member 0 1 - -\n", 4)
        self.check_text(twins + "member 0 2 - -\nmember 1 2 - -\nmember 0 1 - -\n", 6)
        self.check_text(twins + "member 0 2 0 0\nmember 1 2 - -\n")

    def test_pins(self):
        for line in ("pin 3", "pin -1", "pin 7", "pin " + "9" * 30):
            self.bad_line(line)
        for line in ("pin 0", "pin 3", "pin -1"):
            self.bad_line(line, 6, ("pin 2",))
        for line in ("pin 0", "pin 1", "pin 2", "pin 3"):
            self.bad_line(line, 7, ())
        self.check_text("pin 0\n", 1)

    def test_last_line_without_its_newline(self):
        for count in range(1, 8):
            self.check_text("\n".join(LINES[:count]), count)
            self.check_text("\n".join(LINES[:count]) + "\n")
            self.check_text("\n".join(LINES[:count]) + "\n ", count + 1)
            self.check_text("\n".join(LINES[:count]) + "\nx", count + 1)
        self.check_text("x", 1)
        self.check_text(" ", 1)
        self.check_text("joint 0 0", 1)

    def test_empty_lines(self):
        self.check_text("\n", 1)
        self.check_text("\n" + GOOD, 1)
        self.check_text(GOOD + "\n", 8)
        for at in range(7):
            self.check_text("".join(line + "\n" for line in LINES[:at] + [""] + LINES[at:]), at + 1)

    def test_two_at_once(self):
        bad = ("", "joint 1", "joint +1 0", "joint 0 -0", "member 0 3 - -", "member 1 0 - -", "member 0 1 -1 -", "pin 3",
               "Pin 0", "joint 0 0 ", "pin 01")
        for some in bad:
            for other in bad:
                for at in (0, 2):
                    lines = LINES[:at] + [some] + LINES[at:3] + [other] + LINES[3:]
                    self.check_text("".join(line + "\n" for line in lines), at + 1)
                    self.check_text("\n".join(lines), at + 1)

    def test_last_line_spoilt(self):
        draw = drawing(543)
        for _ in range(200):
            text = own_text(drawn_frame(draw, 5))
            count = text.count("\n")
            if count:
                for end in ("", " \n", "0\n0", "\n\n", "-\n", "\n-"):
                    self.check_text(text[:-1] + end)
                self.check_text(text[:-1], count)
                self.check_text(text[:-1] + " \n", count)

    def test_spoilt_anywhere(self):
        draw = drawing(544)
        found = Counter()
        for _ in range(3000):
            text = own_text(drawn_frame(draw, 4))
            for _ in range(draw.choice((1, 1, 2))):
                at = draw.randint(0, len(text))
                cut = draw.choice((0, 0, 1, 1, 5))
                text = text[:at] + draw.choice(("", "", " ", "\n", "-", "0", "1", "7", "joint", "pin 0\n")) + text[at + cut:]
            found[isinstance(self.check_text(text), tuple)] += 1
        self.assertGreater(min(found.values()), 300)

    def test_lines_exchanged(self):
        draw = drawing(545)
        found = Counter()
        for _ in range(1500):
            lines = own_text(drawn_frame(draw, 4)).split("\n")[:-1]
            if len(lines) > 1:
                at, other = draw.randrange(len(lines)), draw.randrange(len(lines))
                lines[at], lines[other] = lines[other], lines[at]
                if draw.random() < 0.3:
                    lines.insert(draw.randrange(len(lines)), draw.choice(lines))
                found[isinstance(self.check_text("".join(line + "\n" for line in lines)), tuple)] += 1
        self.assertGreater(min(found.values()), 100)


if __name__ == "__main__":
    unittest.main()
