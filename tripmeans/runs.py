"""Runs: a program is gone through at a bound with given integers, until a value does not fit (part 2)."""

from tripmeans.errors import BadBound, BadGiven
from tripmeans.integers import are_integers, is_integer
from tripmeans.programs import count_items, demand_program


def is_bound(thing):
    """Whether any value is a bound."""
    return is_integer(thing) and thing >= 1


def is_in_range(kind, bound, value):
    """Whether a value lies in the range that a kind has at a bound."""
    word, k = kind
    low = -k * bound if word == "both" else 0
    return low <= value <= k * bound


def are_given(program, bound, thing):
    """Whether any value is given integers for a program at a bound."""
    ins, facts = program[:2]
    if not are_integers(thing, len(ins)):
        return False
    if not all([is_in_range(kind, bound, value) for (_, kind), value in zip(ins, thing)]):
        return False
    values = values_of(program, thing)
    return all([values[small] <= values[large] for small, large in facts])


def values_of(program, given):
    """The given integers by the names of their inputs."""
    return {name: value for (name, _), value in zip(program[0], given)}


def demand_run(program, bound, given):
    """Raises the error of the first of the three values that is not as it should be."""
    demand_program(program)
    if not is_bound(bound):
        raise BadBound(bound)
    if not are_given(program, bound, given):
        raise BadGiven(given)


def run(program, bound, given):
    """("ends", values) with those of the outs, or ("trips", number, value)."""
    demand_run(program, bound, given)
    return told_run(program, bound, given)


def told_run(program, bound, given):
    """What a run of a program comes to; None if the two others, any values, are no bound and given integers."""
    if not is_bound(bound) or not are_given(program, bound, given):
        return None
    values = values_of(program, given)
    pairs = []
    if goes_through(program[2], 0, bound, values, pairs):
        return ("ends", tuple([values[name] for name in program[3]]))
    number, value = pairs[-1]
    return ("trips", number, value)


def trace(program, bound, given):
    """The pairs (number, value) of all statements that reckon a value, also of the one that trips."""
    demand_run(program, bound, given)
    pairs = []
    goes_through(program[2], 0, bound, values_of(program, given), pairs)
    return tuple(pairs)


def goes_through(block, first, bound, values, pairs):
    """Whether all values of a block fit; its statements are numbered from the number first on.

    Each value that is reckoned is put behind pairs, with its number, and if it fits among values, by its name.
    """
    number = first
    for item in block:
        if item[0] == "if":
            small, large, then, other = item[1:]
            if values[small] <= values[large]:
                fits = goes_through(then, number + 1, bound, values, pairs)
            else:
                fits = goes_through(other, number + 1 + count_items(then), bound, values, pairs)
        else:
            values[item[1]] = reckoned(item, values)
            pairs.append((number, values[item[1]]))
            fits = is_in_range(item[2], bound, values[item[1]])
        if not fits:
            return False
        number += count_items((item,))
    return True


def reckoned(statement, values):
    """The value that a statement gives its name, where names have these values."""
    word, one, other = statement[0], statement[3], statement[4]
    if word == "times":
        return one * values[other]
    if word == "plus":
        return values[one] + values[other]
    if word == "minus":
        return values[one] - values[other]
    if word == "least":
        return min(values[one], values[other])
    return max(values[one], values[other])
