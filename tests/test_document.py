"""The examples of DOC.md to the letter, those of README.md, and what one part of the program passes to another."""

import builtins
import copy
import doctest
import unittest
from pathlib import Path

from drawn_nets import all_pairs, drawn_net
from loadorloose.adding import fewest, spare
from loadorloose.building import building, is_building
from loadorloose.carrying import carry
from loadorloose.counting import chosen, count_rank, is_enough
from loadorloose.covers import cover, cover_sum, is_cover
from loadorloose.factors import greatest
from loadorloose.faces import is_plane, outer, rounds
from loadorloose.frames import carries
from loadorloose.grids import grid_frame, grid_motion
from loadorloose.holding import hold, is_proper, is_rigid, stiffen
from loadorloose.judging import is_carry, is_greatest, is_hold, is_stiffen
from loadorloose.numbers import brought, number, over, times
from loadorloose.placing import growth_rank, placed
from loadorloose.surfaces import slopes, surface, tensions_of
from loadorloose.texts import read_frame, write_frame
from support import drawing

ROOT = Path(__file__).resolve().parent.parent
DOCUMENT = ROOT.parent / "shared" / "DOC.md"


class Examples(unittest.TestCase):
    def test_numbers(self):
        self.assertEqual(over(number(6, -4), (3, 1)), (-1, 2))

    def test_carry(self):
        frame = (((0, 0), (2, 0)), ((0, 1, None, None),), (0,))
        self.assertEqual(carry(frame, ((0, 0), (3, 0))), ("tensions", ((3, 2),)))
        self.assertEqual(carry(frame, ((0, 0), (0, 5))), ("motion", ((0, 0), (0, 1))))

    def test_greatest(self):
        frame = (((0, 0), (2, 0)), ((0, 1, 4, None),), (0,))
        self.assertEqual(greatest(frame, ((0, 0), (3, 0))), ("most", (8, 3), ((4, 1),), ((0, 0), (1, 0))))

    def test_write_frame(self):
        frame = (((0, 0), (2, -1)), ((0, 1, None, 0),), (1,))
        self.assertEqual(write_frame(frame), "joint 0 0\njoint 2 -1\nmember 0 1 - 0\npin 1\n")

    def examples_of(self, path, least):
        """Run the examples of a text, of which there are so many at least."""
        text = path.read_text(encoding="utf-8").replace("```", "")
        examples = doctest.DocTestParser().get_doctest(text, {}, path.name, str(path), 0)
        failed, done = doctest.DocTestRunner().run(examples)
        # What an example shows stays behind as a name, as at a prompt.
        vars(builtins).pop("_", None)
        self.assertEqual(failed, 0)
        self.assertGreaterEqual(done, least)

    def test_readme(self):
        self.examples_of(ROOT / "README.md", 50)

    @unittest.skipUnless(DOCUMENT.exists(), "the document is not here")
    def test_document(self):
        self.examples_of(DOCUMENT, 6)


class Together(unittest.TestCase):
    def test_nets(self):
        # What points 16 to 20 tell of one net belongs together.
        draw = drawing(581)
        for _ in range(60):
            n = draw.randint(2, 9)
            net = drawn_net(draw, n, max(0, 2 * n - 3 + draw.randint(-2, 3)))
            kept = copy.deepcopy(net)
            rank = count_rank(net)
            self.assertEqual(cover_sum(cover(net)), rank)
            self.assertIs(is_cover(net, cover(net)), True)
            points = placed(net)
            self.assertEqual(growth_rank(points, net[1]), rank)
            self.assertEqual(len(chosen(net)), rank)
            self.assertLessEqual(len(net[1]) - len(spare(net)), rank)
            steps = building(net)
            self.assertIs(steps is not None and is_building(net, steps), is_enough(net))
            bars = tuple(pair + (None, None) for pair in net[1])
            self.assertEqual(stiffen((points, bars, ()))[0], "stiff" if is_enough(net) else "bends")
            offers = [pair + (k % 3,) for k, pair in enumerate(all_pairs(n))]
            added = [offers[k][:2] for k in fewest(net, offers)]
            self.assertEqual(len(added), 2 * n - 3 - rank)
            self.assertIs(is_enough((n, net[1] + tuple(added))), True)
            self.assertEqual(net, kept)

    def test_answers_that_are_passed_on(self):
        # Tensions, motions and factors that were told become limits, forces and heights.
        frame = grid_frame(2, 2, [(0, 0, "up"), (1, 0, "down"), (1, 1, "up"), (0, 1, "down")])
        word, tensions = stiffen(frame)
        self.assertEqual(word, "stiff")
        self.assertTrue(is_proper(frame, tensions))
        points, members, _ = frame
        members = tuple(m[:2] + (10 ** 300 * abs(t), abs(t)) for m, t in zip(members, tensions))
        limited = (points, members, (0, 2))
        motion = grid_motion(2, 2, [])
        self.assertFalse(is_rigid(points, motion))
        load = tuple((10 ** 200 * x, 3 ** 500 * y) for x, y in motion)
        for tell, judge in ((carry, is_carry), (greatest, is_greatest)):
            self.assertIs(judge(limited, load, tell(limited, load)), True)
        for tell, judge in ((hold, is_hold), (stiffen, is_stiffen)):
            self.assertIs(judge(limited, tell(limited)), True)
        self.assertTrue(read_frame(write_frame(limited)) == limited)

    def test_plane_nets(self):
        # Heights that were told are passed back, and so are sums and products of tensions that were told.
        points = ((0, 0), (12, 0), (0, 12), (3, 3), (6, 3))
        pairs = ((0, 1), (0, 2), (1, 2), (0, 3), (1, 4), (2, 3), (2, 4), (3, 4), (0, 4))
        self.assertTrue(is_plane(points, pairs))
        heights = ((0, 1),) * 3 + (number(7, 3 ** 400), number(-5, 2 ** 900))
        tensions = tensions_of(points, pairs, heights)
        members = tuple(pair + (None, None) for pair in pairs)
        self.assertIs(carries((points, members, ()), ((0, 0),) * 5, tensions), True)
        integers = tuple(brought(tensions))
        told = surface(points, pairs, integers)
        scale = number(told[3] * 3 ** 400, 7)
        self.assertEqual([(height, 1) for height in told], [times(scale, height) for height in heights])
        found = slopes(points, pairs, integers)
        self.assertEqual(len(found), len(rounds(points, pairs)))
        self.assertEqual(found[outer(points, pairs)], (0, 0))
        self.assertIsNone(surface(points, pairs, integers[:-1] + (integers[-1] + 1,)))


if __name__ == "__main__":
    unittest.main()
