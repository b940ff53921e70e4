"""Point 5: programs, their three kinds of answer, and the judging of answers."""

import copy
import unittest
from collections import Counter

from loadorloose.numbers import plus
from loadorloose.papers import paper
from loadorloose.programs import maximize, shows
from loadorloose.simplex import settled
from support import (
    bounded_gains, dot, drawing, drawn_program, drawn_rows, fit_sides, fraction, has_form, is_right, mixed_rows,
    number_of,
)

LARGE = 10 ** 12


class Checking(unittest.TestCase):
    def check(self, rows, sides, gains, word=None):
        """Check the answer for a program by the words of point 5; word tells which answer it must be."""
        kept = copy.deepcopy((rows, sides, gains))
        answer = maximize(rows, sides, gains)
        self.assertEqual((rows, sides, gains), kept)
        self.assertTrue(has_form(rows, gains, answer))
        self.assertTrue(is_right(rows, sides, gains, answer))
        self.assertIs(shows(rows, sides, gains, answer), True)
        self.assertEqual((rows, sides, gains), kept)
        if word is not None:
            self.assertEqual(answer[0], word)
        return answer


class Maximize(Checking):
    def test_drawn(self):
        draw = drawing(31)
        words = Counter(self.check(*drawn_program(draw))[0] for _ in range(4000))
        self.assertTrue(all(words[word] > 300 for word in ("none", "any", "most")))

    def test_a_program_with_a_known_answer(self):
        # x + y + s = 4, x + 3 y + t = 6; gains 3 and 5
        rows = [(1, 1, 1, 0), (1, 3, 0, 1)]
        answer = self.check(rows, [4, 6], (3, 5, 0, 0), "most")
        self.assertEqual(answer, ("most", ((3, 1), (1, 1), (0, 1), (0, 1)), ((2, 1), (1, 1))))

    def test_numbers_that_are_no_integers(self):
        answer = self.check([(3, 2)], [1], (1, 0), "most")
        self.assertEqual(answer, ("most", ((1, 3), (0, 1)), ((1, 3),)))
        answer = self.check([(0, 3), (2, 0)], [1, 5], (4, -7), "most")
        self.assertEqual(answer, ("most", ((5, 2), (1, 3)), ((-7, 3), (2, 1))))

    def test_no_rows(self):
        self.assertEqual(self.check([], [], ()), ("most", (), ()))
        self.assertEqual(self.check([], [], (0, -3)), ("most", ((0, 1), (0, 1)), ()))
        self.check([], [], (0, -3, 5), "any")
        self.check([], [], (1,), "any")

    def test_no_columns(self):
        self.check([(), ()], [0, 0], (), "most")
        self.check([()], [3], (), "none")
        self.check([(), (), ()], [0, -2, 0], (), "none")
        self.check([(), ()], [5, -5], (), "none")

    def test_one_row(self):
        self.check([(2, 3, -1)], [6], (1, 1, -1), "most")
        self.check([(2, 3, -1)], [6], (1, 1, 1), "any")
        self.check([(2, 3, 1)], [-6], (1, 1, 1), "none")
        self.check([(-2, -3)], [-6], (1, 1), "most")
        self.check([(2, 3)], [0], (5, 5), "most")
        self.check([(1, -1)], [0], (1, 0), "any")

    def test_one_column(self):
        self.check([(2,), (4,)], [3, 6], (7,), "most")
        self.check([(2,), (4,)], [3, 7], (7,), "none")
        self.check([(2,), (-4,)], [-2, 4], (7,), "none")
        self.check([(0,)], [0], (7,), "any")
        self.check([(0,)], [0], (-7,), "most")
        self.check([(0,)], [0], (0,), "most")

    def test_rows_of_noughts(self):
        for side, word in ((0, "most"), (1, "none"), (-1, "none"), (LARGE, "none")):
            self.check([(1, 2), (0, 0)], [3, side], (1, 1), word)
            self.check([(0, 0), (1, 2)], [side, 3], (1, 1), word)
        self.check([(0, 0, 0)] * 3, [0, 0, 0], (0, -1, 0), "most")
        self.check([(0, 0, 0)] * 3, [0, 0, 0], (0, -1, 1), "any")
        self.check([(0, 0, 0)] * 3, [0, 4, 0], (0, -1, 1), "none")

    def test_rows_that_are_multiples(self):
        self.check([(1, 2), (2, 4), (-3, -6)], [3, 6, -9], (1, 1), "most")
        self.check([(1, 2), (2, 4)], [3, 7], (1, 1), "none")
        self.check([(1, 2), (1, 2)], [3, 3], (1, 5), "most")
        self.check([(1, -1), (-1, 1)], [3, -3], (1, 5), "any")

    def test_rows_that_are_sums(self):
        draw = drawing(32)
        for _ in range(100):
            width = draw.randint(2, 10)
            base = drawn_rows(draw, draw.randint(1, 4), width, draw.choice((2, LARGE)))
            rows = mixed_rows(draw, len(base) + draw.randint(1, 5), base)
            sides = fit_sides(draw, rows, width, 0.5)
            self.check(rows, sides, bounded_gains(draw, rows, width, 9), "most")
            sides[draw.randrange(len(sides))] += 1
            self.check(rows, sides, bounded_gains(draw, rows, width, 9))

    def test_sides_below_nought(self):
        self.check([(-1, 0, 1), (0, -1, -1)], [-4, -5], (-1, -1, 0), "most")
        self.check([(1, 1)], [-1], (0, 0), "none")
        self.check([(1, -1), (-1, 1)], [-2, 2], (-1, 0), "most")

    def test_several_fit_tuples_have_the_greatest_gain(self):
        self.check([(1, 1, 1, 1)], [5], (2, 2, 2, 2), "most")
        self.check([(1, 1, 0), (0, 1, 1)], [1, 1], (0, 0, 0), "most")

    def test_answers_are_new(self):
        program = ([(1, 1)], [2], (1, 0))
        self.assertEqual(maximize(*program), maximize(*program))

    def test_slow_roads(self):
        # Here the steps of greatest promise lead over thousands of corners.
        for n in (4, 9, 13, 17):
            rows = []
            for i in range(n):
                low = tuple(2 ** (i - j + 1) if j < i else int(i == j) for j in range(n))
                rows.append(low + tuple(int(i == j) for j in range(n)))
            gains = tuple(2 ** (n - 1 - j) for j in range(n)) + (0,) * n
            answer = self.check(rows, [5 ** (i + 1) for i in range(n)], gains, "most")
            self.assertEqual(answer[1][n - 1], (5 ** n, 1))

    def test_many_rows_of_noughts(self):
        for side, word in ((0, "most"), (9, "none")):
            rows = [(0,) * 20] * 59 + [(1,) * 20]
            self.check(rows, [0] * 57 + [side, 0, 7], (1,) * 20, word)


class OneCorner(Checking):
    """Programs with many bases for one fit tuple, in which a careless method goes in circles."""

    def test_known_circles(self):
        # Beale's and others' examples, brought to integers
        rows = [(1, -32, -4, 36, 4, 0, 0), (1, -24, -1, 6, 0, 2, 0), (0, 0, 1, 0, 0, 0, 1)]
        self.check(rows, [0, 0, 1], (3, -80, 2, -24, 0, 0, 0), "most")
        rows = [(1, -11, -5, 18, 2, 0, 0), (1, -3, -1, 2, 0, 2, 0), (1, 0, 0, 0, 0, 0, 1)]
        self.check(rows, [0, 0, 1], (10, -57, -9, -24, 0, 0, 0), "most")
        rows = [(-2, -9, 1, 9, 1, 0), (1, 3, -1, -6, 0, 3)]
        self.check(rows, [0, 0], (2, 3, -1, -12, 0, 0), "any")

    def test_all_sides_nought(self):
        draw = drawing(33)
        for count, width, size in ((5, 12, 1), (20, 50, 1), (60, 150, 1), (60, 150, 3), (60, 61, 2)):
            rows = drawn_rows(draw, count, width, size)
            self.check(rows, [0] * count, bounded_gains(draw, rows, width, 5), "most")
            self.check(rows, [0] * count, tuple(draw.randint(-2, 3) for _ in range(width)))

    def test_few_above_nought(self):
        draw = drawing(34)
        for count, width, size in ((20, 50, 1), (60, 150, 1), (60, 150, 2)):
            rows = drawn_rows(draw, count, width, size, 0.5)
            self.check(rows, fit_sides(draw, rows, width, 0.05), bounded_gains(draw, rows, width, 5), "most")

    def test_pairings(self):
        draw = drawing(35)
        for n in (3, 6, 12):
            rows = [tuple(int(k // n == i) for k in range(n * n)) for i in range(n)]
            rows += [tuple(int(k % n == j) for k in range(n * n)) for j in range(n)]
            worths = tuple(draw.randint(0, 20) for _ in range(n * n))
            answer = self.check(rows, [1] * (2 * n), worths, "most")
            self.assertTrue(all(a in ((0, 1), (1, 1)) for a in answer[1]))

    def test_equal_columns(self):
        self.check([(1,) * 40, (2,) * 40], [3, 6], (1,) * 40, "most")
        self.check([(1,) * 40, (2,) * 40], [3, 5], (1,) * 40, "none")


class LargePrograms(Checking):
    """The counts and sizes of point 29."""

    def test_most(self):
        draw = drawing(36)
        rows = drawn_rows(draw, 60, 150, LARGE)
        sides = fit_sides(draw, rows, 150, 0.5)
        self.check(rows, sides, bounded_gains(draw, rows, 150, LARGE), "most")

    def test_most_at_a_corner_of_many(self):
        draw = drawing(37)
        rows = drawn_rows(draw, 60, 150, LARGE)
        sides = fit_sides(draw, rows, 150, 0.1)
        self.check(rows, sides, bounded_gains(draw, rows, 150, LARGE), "most")

    def test_any(self):
        draw = drawing(38)
        rows = drawn_rows(draw, 60, 150, LARGE)
        sides = fit_sides(draw, rows, 150, 0.5)
        self.check(rows, sides, drawn_rows(draw, 1, 150, LARGE)[0], "any")

    def test_none(self):
        draw = drawing(39)
        rows = drawn_rows(draw, 59, 150, LARGE) + [tuple(draw.randint(0, LARGE) for _ in range(150))]
        self.check(rows, [draw.randint(-LARGE, LARGE) for _ in range(59)] + [-1], (1,) * 150, "none")

    def test_sums_of_long_rows(self):
        draw = drawing(40)
        rows = mixed_rows(draw, 60, drawn_rows(draw, 58, 150, LARGE // 10 ** 4))
        sides = fit_sides(draw, rows, 150, 0.5)
        self.check(rows, sides, bounded_gains(draw, rows, 150, LARGE), "most")
        sides[0] += 1
        self.check(rows, sides, (1,) * 150)

    def test_multiples_and_noughts_between_long_rows(self):
        draw = drawing(41)
        rows = drawn_rows(draw, 20, 150, 10 ** 6)
        rows += [tuple(10 ** 6 * n for n in row) for row in rows] + [(0,) * 150] * 20
        draw.shuffle(rows)
        sides = fit_sides(draw, rows, 150, 0.3)
        self.check(rows, sides, bounded_gains(draw, rows, 150, LARGE), "most")
        sides[0] += 1
        self.check(rows, sides, bounded_gains(draw, rows, 150, LARGE), "none")

    def test_many_columns_and_few_rows(self):
        draw = drawing(42)
        for count in (1, 2, 5):
            rows = drawn_rows(draw, count, 150, LARGE)
            sides = fit_sides(draw, rows, 150, 0.5)
            self.check(rows, sides, bounded_gains(draw, rows, 150, LARGE), "most")

    def test_as_many_rows_as_columns(self):
        draw = drawing(43)
        rows = drawn_rows(draw, 60, 60, LARGE)
        self.check(rows, fit_sides(draw, rows, 60, 0.5), (1,) * 60, "most")
        self.check(rows, [1] * 60, (1,) * 60)

    def test_more_rows_than_columns(self):
        draw = drawing(44)
        rows = drawn_rows(draw, 60, 25, LARGE)
        self.check(rows, fit_sides(draw, rows, 25, 0.5), (1,) * 25, "most")
        self.check(rows, [1] * 60, (1,) * 25, "none")

    def test_numbers_far_below_one(self):
        # x[k] is 10 ** -12 of x[k - 1]: rounded integers can't tell the last one from nought.
        n = 59
        rows = [tuple(LARGE if j == 0 else 0 for j in range(n + 1))]
        for i in range(1, n):
            rows.append(tuple({i: LARGE, i - 1: -1}.get(j, 0) for j in range(n + 1)))
        gains = (0,) * n + (1,)
        sides = [1] + [0] * n
        both = tuple({n - 1: 1, n: 1}.get(j, 0) for j in range(n + 1))
        self.check(rows + [both], sides, gains, "none")
        equal = tuple({n - 1: 1, n: -1}.get(j, 0) for j in range(n + 1))
        answer = self.check(rows + [equal], sides, gains, "most")
        self.assertEqual(answer[1][n], (1, LARGE ** n))
        sides[n] = 1
        answer = self.check(rows + [both], sides, gains, "most")
        self.assertEqual(answer[1][n], (LARGE ** n - 1, LARGE ** n))


class Exact(Checking):
    """The simplex method without rounding, which is asked when a guess was wrong."""

    def test_drawn(self):
        draw = drawing(45)
        for _ in range(1500):
            program = drawn_program(draw)
            answer = paper(*program, settled(*program, False))
            self.assertTrue(has_form(program[0], program[2], answer))
            self.assertTrue(is_right(*program, answer))
            self.assertEqual(answer[0], maximize(*program)[0])

    def test_middling(self):
        draw = drawing(46)
        for many in (0, 0.1, 0.6):
            rows = drawn_rows(draw, 20, 45, LARGE)
            program = (rows, fit_sides(draw, rows, 45, many), bounded_gains(draw, rows, 45, LARGE))
            self.assertTrue(is_right(*program, paper(*program, settled(*program, False))))


def changed(draw, answer):
    """The answer with one of its numbers changed, if it has numbers."""
    places = [(k, at) for k in range(1, len(answer)) for at in range(len(answer[k]))]
    if not places:
        return answer
    k, at = draw.choice(places)
    change = draw.choice(((1, 1), (-1, 1), (1, 10 ** 30), (-1, 10 ** 30), (1, 3)))
    part = answer[k][:at] + (plus(answer[k][at], change),) + answer[k][at + 1:]
    return answer[:k] + (part,) + answer[k + 1:]


class Shows(Checking):
    def judge(self, rows, sides, gains, answer):
        """Check what `shows` tells of an answer by the words of point 5; return it."""
        kept = copy.deepcopy((rows, sides, gains, answer))
        found = shows(rows, sides, gains, answer)
        self.assertIs(found, is_right(rows, sides, gains, answer))
        self.assertEqual((rows, sides, gains, answer), kept)
        return found

    def test_right_answers_that_maximize_does_not_tell(self):
        program = ([(1, 1, 1)], [4], (2, 2, 0))
        for x in (((4, 1), (0, 1), (0, 1)), ((0, 1), (4, 1), (0, 1)), ((1, 3), (11, 3), (0, 1))):
            self.assertIs(shows(*program, ("most", x, ((2, 1),))), True)
        program = ([(1, -1)], [0], (1, 0))
        self.assertIs(shows(*program, ("any", ((5, 2), (5, 2)), ((1, 7), (1, 7)))), True)
        program = ([(1, 1), (1, 1)], [1, 2], (1, 0))
        self.assertIs(shows(*program, ("none", ((5, 3), (-5, 3)))), True)

    def test_most_must_be_fit(self):
        program = ([(1, 1, 1)], [4], (2, 2, 0))
        y = ((2, 1),)
        self.assertIs(shows(*program, ("most", ((4, 1), (1, 1), (0, 1)), y)), False)
        self.assertIs(shows(*program, ("most", ((5, 1), (-1, 1), (0, 1)), y)), False)

    def test_most_must_have_the_greatest_gain(self):
        program = ([(1, 1, 1)], [4], (2, 2, 0))
        self.assertIs(shows(*program, ("most", ((3, 1), (0, 1), (1, 1)), ((2, 1),))), False)
        self.assertIs(shows(*program, ("most", ((3, 1), (0, 1), (1, 1)), ((3, 2),))), False)
        self.assertIs(shows(*program, ("most", ((4, 1), (0, 1), (0, 1)), ((1, 1),))), False)
        self.assertIs(shows(*program, ("most", ((4, 1), (0, 1), (0, 1)), ((3, 1),))), False)

    def test_any_must_be_fit_and_grow(self):
        program = ([(1, -1, 0)], [0], (1, 0, -2))
        x = ((1, 1), (1, 1), (0, 1))
        self.assertIs(shows(*program, ("any", x, ((1, 1), (1, 1), (0, 1)))), True)
        self.assertIs(shows(*program, ("any", x, ((3, 1), (3, 1), (1, 1)))), True)
        self.assertIs(shows(*program, ("any", x, ((2, 1), (2, 1), (1, 1)))), False)
        self.assertIs(shows(*program, ("any", x, ((1, 1), (0, 1), (0, 1)))), False)
        self.assertIs(shows(*program, ("any", x, ((0, 1), (0, 1), (-1, 1)))), False)
        self.assertIs(shows(*program, ("any", x, ((0, 1), (0, 1), (0, 1)))), False)
        self.assertIs(shows(*program, ("any", ((1, 1), (2, 1), (0, 1)), x)), False)
        self.assertIs(shows(*program, ("any", ((0, 1), (0, 1), (-1, 1)), x)), False)

    def test_none_must_part(self):
        program = ([(1, 1), (1, 2)], [-1, 5], (1, 0))
        self.assertIs(shows(*program, ("none", ((1, 1), (0, 1)))), True)
        self.assertIs(shows(*program, ("none", ((0, 1), (0, 1)))), False)
        self.assertIs(shows(*program, ("none", ((0, 1), (-1, 1)))), False)
        self.assertIs(shows(*program, ("none", ((5, 1), (1, 1)))), False)
        self.assertIs(shows(*program, ("none", ((6, 1), (1, 1)))), True)

    def test_one_number_changed(self):
        draw = drawing(47)
        found = Counter()
        for _ in range(3000):
            program = drawn_program(draw)
            found[self.judge(*program, changed(draw, maximize(*program)))] += 1
        self.assertGreater(found[False], 1000)
        self.assertGreater(found[True], 100)

    def test_another_word(self):
        draw = drawing(48)
        for _ in range(3000):
            program = drawn_program(draw)
            answer = maximize(*program)
            for word in ("none", "any", "most"):
                other = (word,) + answer[1:]
                expected = has_form(program[0], program[2], other) and is_right(*program, other)
                self.assertIs(shows(*program, other), expected)

    def test_another_word_with_the_same_lengths(self):
        # As many rows as columns: the tuples for one word have the right lengths for the other one.
        rows = [(1, -1), (2, -2)]
        answer = ("any", ((1, 1), (1, 1)), ((1, 1), (1, 1)))
        self.assertIs(shows(rows, [0, 0], (1, 0), answer), True)
        self.assertIs(shows(rows, [0, 0], (1, 0), ("most",) + answer[1:]), False)
        answer = ("most", ((1, 1), (0, 1)), ((1, 2), (0, 1)))
        self.assertIs(shows([(2, 0), (0, 2)], [2, 0], (1, 0), answer), True)
        self.assertIs(shows([(2, 0), (0, 2)], [2, 0], (1, 0), ("any",) + answer[1:]), False)

    def test_drawn_answers(self):
        draw = drawing(49)
        found = Counter()

        def drawn_numbers(count):
            kind = draw.choice(((0, 1), (-1, 0, 1), (0, 0, 0, 1, 2)))
            return tuple(number_of(draw.choice(kind)) for _ in range(count))

        for _ in range(8000):
            rows = drawn_rows(draw, draw.randint(0, 2), draw.randint(0, 3), 1)
            width = len(rows[0]) if rows else 2
            sides = [draw.randint(-1, 1) for _ in rows]
            gains = tuple(draw.randint(-1, 1) for _ in range(width))
            for answer in (
                ("none", drawn_numbers(len(rows))),
                ("any", drawn_numbers(width), drawn_numbers(width)),
                ("most", drawn_numbers(width), drawn_numbers(len(rows))),
            ):
                found[answer[0], self.judge(rows, sides, gains, answer)] += 1
        for word in ("none", "any", "most"):
            self.assertGreater(found[word, True], 50)
            self.assertGreater(found[word, False], 500)

    def test_sums_of_right_answers(self):
        draw = drawing(50)
        for _ in range(500):
            rows, sides, gains = drawn_program(draw)
            answer = maximize(rows, sides, gains)
            if answer[0] == "none":
                self.judge(rows, sides, gains, ("none", tuple(plus(a, a) for a in answer[1])))
            elif answer[0] == "any":
                more = tuple(plus(a, b) for a, b in zip(*answer[1:]))
                self.assertIs(self.judge(rows, sides, gains, ("any", more, answer[2])), True)

    def test_edges(self):
        self.assertIs(shows([], [], (), ("most", (), ())), True)
        self.assertIs(shows([], [], (), ("any", (), ())), False)
        self.assertIs(shows([], [], (), ("none", ())), False)
        self.assertIs(shows([()], [2], (), ("none", ((-1, 1),))), True)
        self.assertIs(shows([()], [2], (), ("none", ((1, 1),))), False)
        self.assertIs(shows([()], [2], (), ("most", (), ((0, 1),))), False)
        self.assertIs(shows([()], [0], (), ("most", (), ((7, 1),))), True)

    def test_large_denominators(self):
        draw = drawing(51)
        rows = drawn_rows(draw, 60, 150, LARGE)
        y = tuple(number_of(fraction((draw.randint(-LARGE, LARGE), draw.randint(1, LARGE)))) for _ in range(60))
        x = tuple(number_of(fraction((draw.randint(0, LARGE), draw.randint(1, LARGE)))) for _ in range(150))
        sides = [draw.randint(-LARGE, LARGE) for _ in range(60)]
        self.judge(rows, sides, (0,) * 150, ("none", y))
        self.judge(rows, sides, (0,) * 150, ("most", x, y))
        self.judge(rows, sides, (0,) * 150, ("any", x, x))

    def test_right_by_products(self):
        # A program that is made from its answer, with large numbers
        draw = drawing(52)
        rows = drawn_rows(draw, 10, 20, LARGE)
        x = [draw.choice((0, draw.randint(1, LARGE))) for _ in range(20)]
        y = [draw.randint(-LARGE, LARGE) for _ in range(10)]
        gains = tuple(dot(y, [row[k] for row in rows]) - (0 if x[k] else 1) for k in range(20))
        answer = ("most", tuple((n, 1) for n in x), tuple((n, 1) for n in y))
        self.assertIs(shows(rows, [dot(row, x) for row in rows], gains, answer), True)
        self.check(rows, [dot(row, x) for row in rows], gains, "most")


if __name__ == "__main__":
    unittest.main()
