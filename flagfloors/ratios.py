"""Ratios: tuples (a, b) of integers in lowest terms, b at least 1."""

from math import gcd


def ratio(top, bottom):
    """Return the ratio of two integers, the second one not 0."""
    if bottom < 0:
        top = -top
        bottom = -bottom
    common = gcd(top, bottom)
    return (top // common, bottom // common)


def plus(a, b):
    """Return the sum of two ratios."""
    return ratio(a[0] * b[1] + b[0] * a[1], a[1] * b[1])


def minus(a, b):
    """Return the difference of two ratios."""
    return ratio(a[0] * b[1] - b[0] * a[1], a[1] * b[1])


def times(a, b):
    """Return the product of two ratios."""
    return ratio(a[0] * b[0], a[1] * b[1])


def over(a, b):
    """Return the quotient of two ratios, the second one not zero."""
    return ratio(a[0] * b[1], a[1] * b[0])


def inverse_sum(numbers):
    """Return the sum of 1/k over integers k of at least 1."""
    counts = {}
    for number in numbers:
        counts[number] = counts.get(number, 0) + 1
    total = (0, 1)
    for number, count in counts.items():
        total = plus(total, ratio(count, number))
    return total


def sign_of(a):
    """Return 1, 0 or -1 for a ratio above, equal to or below zero."""
    if a[0] > 0:
        return 1
    if a[0] < 0:
        return -1
    return 0
