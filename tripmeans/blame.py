"""Which statement of a program trips, and at which bounds two programs part (part 11)."""

from tripmeans.errors import BadBound, BadNumber
from tripmeans.integers import is_integer
from tripmeans.kinds import giving_numbers, judge_never
from tripmeans.papers import are_follow_papers, judge_checks
from tripmeans.partings import Parter
from tripmeans.refining import demand_pair, judge_alike
from tripmeans.runs import demand_run, is_bound, told_run
from tripmeans.signs import judge_signs
from tripmeans.walls import bound_border
from tripmeans.ways import all_ways, kind_borders, room_of


def demand_giving(program, number):
    """Raises BadProgram, or BadNumber for any value that is not the number of a statement that gives a value."""
    numbers = giving_numbers(program)
    if not is_integer(number) or number not in numbers:
        raise BadNumber(number)


def rooms_at(program, number):
    """For each way on which a value is reckoned: its room up to there, (walls, stricts), and the entry of the value."""
    rooms = []
    for entries, _ in all_ways(program):
        for at, entry in enumerate(entries):
            if entry[:2] == ("value", number):
                rooms.append((room_of(program, entries[:at]), entry))
    return rooms


def trip_checks(program, number):
    """The checks that a statement never trips."""
    checks = []
    for (walls, stricts), (_, _, form, kind) in rooms_at(program, number):
        checks.extend([(walls, stricts, wall) for wall in kind_borders(form, kind)])
    return checks


def judge_trip(program, number):
    """A paper that a statement never trips, or a run that trips there."""
    demand_giving(program, number)
    found = judge_checks(len(program[0]) + 1, trip_checks(program, number))
    if found[0] == "point":
        return ("trips", found[1][-1], found[1][:-1])
    return ("never", found[1])


def trip_holds(program, number, thing):
    """Whether any value is a right paper that a statement never trips, or that it can."""
    demand_giving(program, number)
    if not isinstance(thing, tuple):
        return False
    if len(thing) == 2 and thing[0] == "never":
        return are_follow_papers(len(program[0]) + 1, trip_checks(program, number), thing[1])
    if len(thing) != 3 or thing[0] != "trips":
        return False
    found = told_run(program, thing[1], thing[2])
    return found is not None and found[:2] == ("trips", number)


def can_trip(program, number):
    """Whether a statement can trip."""
    return judge_trip(program, number)[0] == "trips"


def can_be_reached(program, number):
    """Whether some run goes through a statement without tripping ahead of it."""
    demand_giving(program, number)
    width = len(program[0]) + 1
    for (walls, stricts), _ in rooms_at(program, number):
        if judge_signs(width, walls, (*stricts, bound_border(width)))[0] == "point":
            return True
    return False


def tripping(program):
    """The ascending tuple of the numbers of all statements that can trip."""
    return tuple([number for number in giving_numbers(program) if can_trip(program, number)])


def never_trips(program):
    """Whether no statement of a program can trip."""
    return judge_never(program)[0] == "never"


def parts_at(one, other, bound, given):
    """Whether two programs part at a bound with given integers."""
    demand_pair(one, other)
    demand_run(one, bound, given)
    return do_part(one, other, bound, given)


def do_part(one, other, bound, given):
    """Whether any two values are a bound and given integers at which two programs with the same ins and facts part."""
    near, far = told_run(one, bound, given), told_run(other, bound, given)
    if near is None or near[0] == far[0] == "trips":
        return False
    return near != far


def demand_most(one, other, most):
    """Raises the error of the first of the three values that is not as it should be."""
    demand_pair(one, other)
    if not is_bound(most):
        raise BadBound(most)


def first_parting(one, other, most):
    """The least bound at which two programs part, with the first given integers; None if they do not up to most."""
    demand_most(one, other, most)
    if judge_alike(one, other)[0] == "alike":
        return None
    parter = Parter(one, other)
    for bound in range(1, most + 1):
        given = parter.first_given(bound)
        if given is not None:
            return (bound, given)
    return None


def bounds_of_parting(one, other, most):
    """The ascending tuple of the bounds up to most at which two programs part."""
    demand_most(one, other, most)
    if judge_alike(one, other)[0] == "alike":
        return ()
    parter = Parter(one, other)
    found = []
    least = []
    for bound in range(1, most + 1):
        # Where they part at a bound they part at all of its multiples.
        if any([bound % by == 0 for by in least]):
            found.append(bound)
        elif parter.first_given(bound) is not None:
            least.append(bound)
            found.append(bound)
    return tuple(found)
