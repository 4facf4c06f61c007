"""Where two programs part at one bound: the first given integers, found on lines and not one by one (part 11).

Inputs that facts hold at one value are one free number; numbers are told one after the other, but for the last
one. On such a line each wall is kept from one integer on, or up to one: so all that two ways do there are spans,
pairs of a least and a greatest integer, which are empty if the least one is the greater one.

A row is a wall over the free numbers and the bound, and one more item that is added: -1 for what is strict.
"""

from tripmeans.integers import value_at
from tripmeans.ways import all_ways, kind_borders, less, meets_of


class Parter:
    """Two programs with the same ins and facts, and what is needed to find where they part at a bound."""

    def __init__(self, one, other):
        names = [name for name, _ in one[0]]
        self.kinds = [kind for _, kind in one[0]]
        self.facts = [(names.index(small), names.index(large)) for small, large in one[1]]
        self.firsts = first_alike(len(names), self.facts)
        # The positions of the first inputs of all free numbers.
        self.free = [at for at, first in enumerate(self.firsts) if at == first]
        self.pairs = []
        for near in all_ways(one):
            for far in all_ways(other):
                self.pairs.append(self.rows_of_pair(near, far))

    def rows_of_pair(self, near, far):
        """The rows of two ways: what both meet, the values of either, and the differences of their outs."""
        meets = []
        for entries, _ in (near, far):
            walls, stricts = meets_of(entries)
            meets.extend([self.row_of(wall, 0) for wall in walls])
            meets.extend([self.row_of(wall, -1) for wall in stricts])
        differences = [self.row_of((*less(one, other), 0), 0) for one, other in zip(near[1], far[1])]
        return meets, self.value_rows(near[0]), self.value_rows(far[0]), differences

    def value_rows(self, entries):
        """The rows of the walls of all values of a way."""
        rows = []
        for entry in entries:
            if entry[0] == "value":
                rows.extend([self.row_of(wall, 0) for wall in kind_borders(entry[2], entry[3])])
        return rows

    def row_of(self, wall, more):
        """The row of a wall, with what is added."""
        sums = [0] * len(self.firsts)
        for first, x in zip(self.firsts, wall):
            sums[first] += x
        return (*[sums[at] for at in self.free], wall[-1], more)

    def first_given(self, bound):
        """The first given integers at which the programs part at a bound; None if they part nowhere there."""
        lows = [-k * bound if word == "both" else 0 for word, k in self.kinds]
        highs = [k * bound for _, k in self.kinds]
        found = self.first_from(bound, self.settled(lows, highs), [])
        if found is None:
            return None
        return tuple([found[self.free.index(first)] for first in self.firsts])

    def settled(self, lows, highs):
        """The least and the greatest integers of all inputs, as far as the facts leave them.

        What is left of each can be had: with one input at any of it, others can be as low or high as that asks.
        """
        low, high = list(lows), list(highs)
        for _ in range(len(lows)):
            for small, large in self.facts:
                low[large] = max(low[large], low[small])
                high[small] = min(high[small], high[large])
        return low, high

    def first_from(self, bound, ends, told):
        """The first values of the free numbers that part the programs, those told being the first ones."""
        lows, highs = ends
        at = self.free[len(told)]
        if len(told) + 1 == len(self.free):
            x = self.first_on_line((*told, 0, bound, 1), len(told), (lows[at], highs[at]))
            return None if x is None else [*told, x]
        for x in range(lows[at], highs[at] + 1):
            narrow = self.settled([*lows[:at], x, *lows[at + 1:]], [*highs[:at], x, *highs[at + 1:]])
            found = self.first_from(bound, narrow, [*told, x])
            if found is not None:
                return found
        return None

    def first_on_line(self, start, at, span):
        """The first value of the last free number in a span at which the programs part; None if there is none.

        The line is told by its point where that number, at this position, is 0.
        """
        found = []
        for meets, near_rows, far_rows, differences in self.pairs:
            whole = span_of(meets, start, at, span)
            if whole[0] <= whole[1]:
                near, far = span_of(near_rows, start, at, whole), span_of(far_rows, start, at, whole)
                found.extend([first_outside(near, far), first_outside(far, near),
                              first_unlike(differences, start, at, (max(near[0], far[0]), min(near[1], far[1])))])
        return min([x for x in found if x is not None], default=None)


def first_alike(many, facts):
    """For each of so many inputs the first one that the facts hold at its value, perhaps itself."""
    above = [{at: True} for at in range(many)]
    for _ in range(many):
        for small, large in facts:
            above[small].update(above[large])
    return [min([k for k in range(many) if k in above[at] and at in above[k]]) for at in range(many)]


def span_of(rows, start, at, span):
    """The part of a span on a line in which all rows are kept."""
    low, high = span
    for row in rows:
        rate, base = row[at], value_at(row, start)
        if rate > 0:
            low = max(low, -(base // rate))
        elif rate < 0:
            high = min(high, base // -rate)
        elif base < 0:
            return (1, 0)
    return (low, high)


def first_outside(one, other):
    """The first integer of a span that is not in another one; None if there is none."""
    low, high = one
    if other[0] <= low and other[0] <= other[1]:
        low = max(low, other[1] + 1)
    return low if low <= high else None


def first_unlike(differences, start, at, span):
    """The first integer of a span at which one of the rows is not 0; None if there is none."""
    low, high = span
    for x in (low, low + 1):
        for row in differences:
            if x <= high and row[at] * x + value_at(row, start) != 0:
                return x
    return None
