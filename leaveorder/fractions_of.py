"""Fractions: tuples (top, bottom) of integers in lowest terms, bottom from 1 on."""

from math import gcd, lcm

from leaveorder.forms import is_int, is_tuple


def is_fraction(value):
    """Whether the value is a fraction from 0 on."""
    if not is_tuple(value) or len(value) != 2 or not is_int(value[0]) or not is_int(value[1]):
        return False
    return value[0] >= 0 and value[1] > 0 and gcd(value[0], value[1]) == 1


def reduced(top, bottom):
    """The fraction of the two in lowest terms."""
    common = gcd(top, bottom)
    return (top // common, bottom // common)


def sums_of_fractions(fractions, indexes, count):
    """The list of so many sums of the fractions, each of which counts for the sum at its index."""
    common = 1
    for _, bottom in fractions:
        common = lcm(common, bottom)
    # With one bottom for all, the sums are sums of integers.
    sums = [0] * count
    for (top, bottom), index in zip(fractions, indexes):
        sums[index] += top * (common // bottom)
    return [reduced(told, common) for told in sums]
