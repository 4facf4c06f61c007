"""Refining: whether a program may stand in the place of another one (part 5)."""

from tripmeans.errors import Unlike
from tripmeans.integers import is_between
from tripmeans.papers import are_follow_papers, judge_checks
from tripmeans.programs import demand_program
from tripmeans.runs import told_run
from tripmeans.ways import all_ways, less, room_of, value_checks


def demand_pair(one, other):
    """Raises the error of the first thing that is not so: two programs of the same ins, facts and numbers of outs."""
    demand_program(one)
    demand_program(other)
    if one[:2] != other[:2] or len(one[3]) != len(other[3]):
        raise Unlike(other)


def checks_of(one, other):
    """The tuple of all checks whether the second program refines the first one."""
    demand_pair(one, other)
    checks = []
    far_ways = all_ways(other)
    for entries, outs in all_ways(one):
        walls, stricts = room_of(one, entries)
        for far_way in far_ways:
            checks.extend(way_checks(walls, stricts, outs, far_way))
    return tuple(checks)


def way_checks(walls, stricts, outs, way):
    """The checks in the room of a way of the first program, with its outs, for a way of the second one."""
    checks, walls, stricts = value_checks(walls, stricts, way[0])
    for near, far in zip(outs, way[1]):
        checks.append((walls, stricts, (*less(near, far), 0)))
        checks.append((walls, stricts, (*less(far, near), 0)))
    return checks


def does_refine(one, other):
    """Whether the second program refines the first one."""
    return judge_refines(one, other)[0] == "refines"


def judge_refines(one, other):
    """A paper that the second program refines the first one, or that they part somewhere."""
    demand_pair(one, other)
    found = judge_checks(len(one[0]) + 1, checks_of(one, other))
    if found[0] == "point":
        return ("parts", found[1][-1], found[1][:-1])
    return ("refines", found[1])


def refines_holds(one, other, thing):
    """Whether any value is a right paper that the second program refines the first one, or that it does not."""
    demand_pair(one, other)
    if not isinstance(thing, tuple):
        return False
    if len(thing) == 2 and thing[0] == "refines":
        return are_refine_papers(one, other, thing[1])
    return len(thing) == 3 and thing[0] == "parts" and does_part(one, other, thing[1], thing[2])


def are_refine_papers(one, other, thing):
    """Whether any value is the papers for all checks of two programs."""
    return are_follow_papers(len(one[0]) + 1, checks_of(one, other), thing)


def does_part(one, other, bound, inputs):
    """Whether any two values are a bound and inputs at which the first program ends, the second one not so."""
    found = told_run(one, bound, inputs)
    return found is not None and found[0] == "ends" and told_run(other, bound, inputs) != found


def judge_alike(one, other):
    """A paper that two programs are alike, or that they part somewhere."""
    near = judge_refines(one, other)
    if near[0] == "parts":
        return ("parts", 0, near[1], near[2])
    far = judge_refines(other, one)
    if far[0] == "parts":
        return ("parts", 1, far[1], far[2])
    return ("alike", near[1], far[1])


def alike_holds(one, other, thing):
    """Whether any value is a right paper that two programs are alike, or that they are not."""
    demand_pair(one, other)
    if not isinstance(thing, tuple):
        return False
    if len(thing) == 3 and thing[0] == "alike":
        return are_refine_papers(one, other, thing[1]) and are_refine_papers(other, one, thing[2])
    if len(thing) != 4 or thing[0] != "parts" or not is_between(thing[1], 0, 1):
        return False
    pair = (one, other) if thing[1] == 0 else (other, one)
    return does_part(pair[0], pair[1], thing[2], thing[3])
