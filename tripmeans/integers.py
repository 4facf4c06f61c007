"""Integers and tuples of integers, as the whole package understands them."""

from math import gcd


def is_integer(thing):
    """Whether any value is an integer; a bool is none."""
    return isinstance(thing, int) and not isinstance(thing, bool)


def is_between(thing, low, high):
    """Whether any value is an integer from low to high."""
    return is_integer(thing) and low <= thing <= high


def are_integers(thing, many):
    """Whether any value is a tuple of as many integers."""
    return isinstance(thing, tuple) and len(thing) == many and all([is_integer(x) for x in thing])


def are_weights(thing, many):
    """Whether any value is a tuple of as many integers, none of them below 0."""
    return are_integers(thing, many) and all([x >= 0 for x in thing])


def value_at(row, point):
    """The sum of the products of the items of two rows."""
    return sum([x * y for x, y in zip(row, point)])


def common_divisor(row):
    """The greatest integer that divides all of a row; 0 for a row of zeros."""
    found = 0
    for x in row:
        found = gcd(found, x)
    return found


def divided(row):
    """A row divided by the greatest integer that divides all of it; a row of zeros as it is."""
    by = common_divisor(row) or 1
    return [x // by for x in row]
