"""Exact numbers: a tuple (n, d) of integers stands for n / d (point 2)."""

from math import gcd, lcm


def number(n, d):
    """The number that stands for n / d; d is not 0, but may be below 0."""
    divisor = gcd(n, d)
    if d < 0:
        divisor = -divisor
    return n // divisor, d // divisor


def plus(a, b):
    """The sum of two numbers."""
    return number(a[0] * b[1] + b[0] * a[1], a[1] * b[1])


def minus(a, b):
    """The difference of two numbers."""
    return number(a[0] * b[1] - b[0] * a[1], a[1] * b[1])


def times(a, b):
    """The product of two numbers."""
    return number(a[0] * b[0], a[1] * b[1])


def over(a, b):
    """The quotient of two numbers; b is not nought."""
    return number(a[0] * b[1], a[1] * b[0])


def summed(numbers):
    """The sum of a list of numbers."""
    total = (0, 1)
    for a in numbers:
        total = plus(total, a)
    return total


def dotted(vector, pair):
    """The number that a vector gives with a tuple of two numbers: the sum of the products of their coordinates."""
    return plus(times((vector[0], 1), pair[0]), times((vector[1], 1), pair[1]))


def less(a, b):
    """Whether a is less than b."""
    return a[0] * b[1] < b[0] * a[1]


def sign(a):
    """1 for a number above nought, 0 for nought, -1 for a number below it."""
    if a[0] > 0:
        return 1
    if a[0] < 0:
        return -1
    return 0


def lowest(integers):
    """A new list of the integers divided by the greatest integer that divides all of them."""
    divisor = 0
    for n in integers:
        divisor = gcd(divisor, n)
        # Long integers make each gcd costly, and nothing is left to divide by.
        if divisor == 1:
            break
    if divisor == 0:
        return list(integers)
    return [n // divisor for n in integers]


def together(numbers):
    """The numbers over one denominator: a list of integers, and the denominator, which is at least 1."""
    scale = 1
    for a in numbers:
        scale = lcm(scale, a[1])
    return [a[0] * (scale // a[1]) for a in numbers], scale


def brought(numbers):
    """A new list of the integers to which the numbers are brought (point 3)."""
    integers, _ = together(numbers)
    return lowest(integers)
