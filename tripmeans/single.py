"""Single programs: one way each; which ones never trip more than others, and signed means (part 4)."""

from tripmeans.errors import BadForms, NotSingle, Unlike
from tripmeans.integers import are_integers, is_between, value_at
from tripmeans.papers import are_follow_papers, judge_checks
from tripmeans.programs import MOST_INS, WIDEST, demand_program
from tripmeans.runs import is_bound, told_run
from tripmeans.walls import found_follows, plain_borders
from tripmeans.ways import all_ways, kind_borders, room_of

CHOOSING = ("if", "least", "greatest")
MOST_HELD = 30


def is_single(program):
    """Whether a program is single."""
    demand_program(program)
    return all([item[0] not in CHOOSING for item in program[2]])


def demand_single(program):
    """Raises NotSingle for a program that is not single."""
    if not is_single(program):
        raise NotSingle()


def entries_of(program):
    """The entries of the only way of a single program."""
    return all_ways(program)[0][0]


def forms_of(program):
    """The tuple of the forms of a single program."""
    demand_single(program)
    return tuple([form for _, _, form, _ in entries_of(program)])


def plain_room(program):
    """The plain walls of a single program."""
    demand_single(program)
    walls, _ = room_of(program, entries_of(program))
    return plain_borders(len(program[0]) + 1, walls)


def demand_singles(one, other):
    """Raises the error of the first thing that is not so: two programs, both single, of the same ins and facts."""
    demand_program(one)
    demand_program(other)
    demand_single(one)
    demand_single(other)
    if one[:2] != other[:2]:
        raise Unlike(other)


def more_checks(one, other):
    """The checks that a single program never trips more than the first one: two for each of its values."""
    walls, _ = room_of(one, entries_of(one))
    checks = []
    for _, _, form, kind in entries_of(other):
        checks.extend([(walls, (), wall) for wall in kind_borders(form, kind)])
    return checks


def judge_never_more(one, other):
    """A paper that the second program never trips more than the first one, or that it does somewhere."""
    demand_singles(one, other)
    found = judge_checks(len(one[0]) + 1, more_checks(one, other))
    if found[0] == "point":
        return ("trips", found[1][-1], found[1][:-1])
    return found


def never_more_holds(one, other, thing):
    """Whether any value is a right paper that the second program never trips more, or that it does."""
    demand_singles(one, other)
    if not isinstance(thing, tuple):
        return False
    if len(thing) == 2 and thing[0] == "weights":
        return are_follow_papers(len(one[0]) + 1, more_checks(one, other), thing[1])
    if len(thing) == 3 and thing[0] == "trips":
        return does_trip_more(one, other, thing[1], thing[2])
    return False


def does_trip_more(one, other, bound, inputs):
    """Whether any two values are a bound and inputs at which the second program alone trips."""
    first, second = told_run(one, bound, inputs), told_run(other, bound, inputs)
    return first is not None and first[0] == "ends" and second[0] == "trips"


def are_held(thing):
    """Whether any value is held forms of 1 to 6 inputs."""
    if not isinstance(thing, tuple) or not 1 <= len(thing) <= MOST_HELD:
        return False
    return any([all([is_held(n, item) for item in thing]) for n in range(1, MOST_INS + 1)])


def is_held(n, thing):
    """Whether any value is a held form of n inputs."""
    if not isinstance(thing, tuple) or len(thing) != 2:
        return False
    return are_integers(thing[0], n) and is_between(thing[1], 1, WIDEST)


def demand_held(held, item):
    """Raises BadForms for the first of the two values that is not as it should be."""
    if not are_held(held):
        raise BadForms(held)
    if not is_held(len(held[0][0]), item):
        raise BadForms(item)


def judge_mean(held, item):
    """A paper that a held form is a signed mean of held forms, or a point that shows that it is none."""
    demand_held(held, item)
    n = len(item[0])
    walls = []
    for form, k in held:
        walls.extend(kind_borders(form, ("both", k)))
    # With a point its opposite holds the held forms, too: so the one wall that bounds the form above will do.
    found = found_follows(n + 1, walls, (), kind_borders(item[0], ("both", item[1]))[0])
    if found[0] == "point":
        return ("point", found[1][-1], found[1][:-1])
    ws = found[2]
    return ("mean", found[1], tuple([above - below for above, below in zip(ws[::2], ws[1::2])]))


def mean_holds(held, item, thing):
    """Whether any value is a right paper that a held form is a signed mean, or that it is none."""
    demand_held(held, item)
    if not isinstance(thing, tuple) or len(thing) != 3:
        return False
    if thing[0] == "mean":
        return is_mean(held, item, thing[1], thing[2])
    return thing[0] == "point" and is_outside(held, item, thing[1], thing[2])


def is_mean(held, item, m, weights):
    """Whether any two values show that a held form is a signed mean of held forms."""
    form, k = item
    # What is asked of m is the same as of a bound.
    if not is_bound(m) or not are_integers(weights, len(held)):
        return False
    if sum([abs(weight) * size for weight, (_, size) in zip(weights, held)]) > m * k:
        return False
    for at, x in enumerate(form):
        if sum([weight * row[at] for weight, (row, _) in zip(weights, held)]) != m * x:
            return False
    return True


def is_outside(held, item, bound, inputs):
    """Whether any two values are a bound and inputs at which the held forms hold, and the other one does not."""
    if not is_bound(bound) or not are_integers(inputs, len(item[0])):
        return False
    return all([does_hold(pair, bound, inputs) for pair in held]) and not does_hold(item, bound, inputs)


def does_hold(pair, bound, inputs):
    """Whether the size of a form is within its bound."""
    form, k = pair
    return abs(value_at(form, inputs)) <= k * bound
