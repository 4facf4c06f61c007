"""Kinds: the least ones, statements that never trip, and registers that are needless (part 6).

Where it is asked what values can come, registers do not count. A reach is a triple: the reach walls of an
entry "value", (walls, stricts), and the form of its value.
"""

from tripmeans.errors import BadKind, BadNumber, TooWide
from tripmeans.integers import are_integers, is_integer, value_at
from tripmeans.papers import are_follow_papers, judge_checks
from tripmeans.places import arm_starts, numbered, with_body
from tripmeans.programs import WIDEST, demand_program, is_kind, rows_of
from tripmeans.runs import is_bound, told_run
from tripmeans.walls import found_follows, is_in_room
from tripmeans.ways import all_ways, kind_borders, meets_of, room_of, start_borders


def giving_numbers(program):
    """The numbers of all statements other than an "if", ascending."""
    return [number for number, (item, _) in enumerate(rows_of(program)) if item[0] != "if"]


def reaches_of(program):
    """For each statement other than an "if", by its number: its reaches, in the order of the ways."""
    found = {number: [] for number in giving_numbers(program)}
    start = start_borders(program)
    for entries, _ in all_ways(program):
        for at, entry in enumerate(entries):
            if entry[0] == "value":
                walls, stricts = meets_of(entries[:at])
                found[entry[1]].append(((*start, *walls), stricts, entry[2]))
    return found


def point_width(program):
    """The width of the walls that speak of the inputs of a program and the bound."""
    return len(program[0]) + 1


def least_kinds(program):
    """The pairs (number, least kind) of all statements other than an "if"."""
    demand_program(program)
    pairs = []
    for number, reaches in reaches_of(program).items():
        kind = least_kind(point_width(program), reaches)
        if kind[1] > WIDEST:
            raise TooWide(number)
        pairs.append((number, kind))
    return tuple(pairs)


def least_kind(width, reaches):
    """The least kind for all these reaches, perhaps one that is wider than a kind can be."""
    below = [find_least(width, walls, stricts, form, 0, True) for walls, stricts, form in reaches]
    word = "up" if max(below, default=0) == 0 else "both"
    k = max([1, *below])
    for walls, stricts, form in reaches:
        k = find_least(width, walls, stricts, form, k, False)
    return (word, k)


def find_least(width, walls, stricts, form, start, is_below):
    """The least number from start on that times the bound is at least all values of a form in a room.

    If it is asked how far the values are below 0 they are looked at with the other sign.
    """
    k = start
    row = form if is_below else tuple([-x for x in form])
    found = found_follows(width, walls, stricts, (*row, k))
    while found[0] == "point":
        *inputs, bound = found[1]
        # All lesser numbers are ruled out by this very point.
        k = -(value_at(row, inputs) // bound)
        found = found_follows(width, walls, stricts, (*row, k))
    return k


def fitted(program):
    """The program with all least kinds, joined statements with their joint kinds."""
    kinds = dict(least_kinds(program))
    for one, other in joined_pairs(program[2], 0):
        kinds[one] = kinds[other] = joint_kind(kinds[one], kinds[other])
    return with_body(program, with_kinds(program[2], 0, kinds))


def joint_kind(one, other):
    """The joint kind of two joined statements."""
    word = "up" if one[0] == other[0] == "up" else "both"
    return (word, max(one[1], other[1]))


def joined_pairs(block, first):
    """The pairs of the numbers of all joined statements in a block and in arms within it."""
    pairs = []
    for number, item in numbered(block, first):
        if item[0] == "if":
            near, far = arm_starts(number, item)
            then, other = given_numbers(item[3], near), given_numbers(item[4], far)
            pairs.extend([(then[name], other[name]) for name in then if name in other])
            pairs.extend(joined_pairs(item[3], near))
            pairs.extend(joined_pairs(item[4], far))
    return pairs


def given_numbers(block, first):
    """For each name that a block gives in its own tuple: the number of the statement."""
    return {item[1]: number for number, item in numbered(block, first) if item[0] != "if"}


def with_kinds(block, first, kinds):
    """A block all of whose statements, and those in its arms, have the kinds that are told by their numbers."""
    items = []
    for number, item in numbered(block, first):
        if item[0] == "if":
            near, far = arm_starts(number, item)
            items.append((*item[:3], with_kinds(item[3], near, kinds), with_kinds(item[4], far, kinds)))
        else:
            items.append((*item[:2], kinds[number], *item[3:]))
    return tuple(items)


def fit_checks(reaches, kind):
    """The checks that a value fits a kind at all its reaches."""
    checks = []
    for walls, stricts, form in reaches:
        checks.extend([(walls, stricts, wall) for wall in kind_borders(form, kind)])
    return checks


def reaches_at(program, number, kind):
    """The reaches of a statement; raises the error of the first of the three values that is wrong."""
    demand_program(program)
    reaches = reaches_of(program)
    if not is_integer(number) or number not in reaches:
        raise BadNumber(number)
    if not is_kind(kind):
        raise BadKind(kind)
    return reaches[number]


def judge_kind(program, number, kind):
    """A paper that the value of a statement always fits a kind, or that it is beyond it somewhere."""
    checks = fit_checks(reaches_at(program, number, kind), kind)
    found = judge_checks(point_width(program), checks)
    if found[0] == "point":
        return ("beyond", found[1][-1], found[1][:-1])
    return ("fits", found[1])


def kind_holds(program, number, kind, thing):
    """Whether any value is a right paper that the value of a statement fits a kind, or that it does not."""
    reaches = reaches_at(program, number, kind)
    if not isinstance(thing, tuple):
        return False
    if len(thing) == 2 and thing[0] == "fits":
        return are_follow_papers(point_width(program), fit_checks(reaches, kind), thing[1])
    if len(thing) != 3 or thing[0] != "beyond":
        return False
    return is_bound(thing[1]) and are_integers(thing[2], len(program[0])) and is_beyond(reaches, kind, thing)


def is_beyond(reaches, kind, paper):
    """Whether a statement with these reaches is reached at the point of a paper, and does not fit the kind."""
    point = (*paper[2], paper[1])
    for walls, stricts, form in reaches:
        if is_in_room(walls, stricts, point) and not is_in_room(kind_borders(form, kind), (), point):
            return True
    return False


def own_checks(program):
    """For each statement other than an "if", in order: the checks that it always fits its own kind."""
    rows = rows_of(program)
    return [fit_checks(reaches, rows[number][0][2]) for number, reaches in reaches_of(program).items()]


def judge_never(program):
    """A paper that a program never trips, or inputs at which it does."""
    demand_program(program)
    papers = []
    for checks in own_checks(program):
        found = judge_checks(point_width(program), checks)
        if found[0] == "point":
            # If this value is not come to the run trips ahead of it.
            return ("trips", found[1][-1], found[1][:-1])
        papers.append(found[1])
    return ("never", tuple(papers))


def never_holds(program, thing):
    """Whether any value is a right paper that a program never trips, or that it does."""
    demand_program(program)
    if not isinstance(thing, tuple):
        return False
    if len(thing) == 2 and thing[0] == "never":
        return are_never_papers(program, thing[1])
    return len(thing) == 3 and thing[0] == "trips" and does_trip(program, thing[1], thing[2])


def are_never_papers(program, thing):
    """Whether any value is a tuple of the papers for each statement other than an "if"."""
    asked = own_checks(program)
    if not isinstance(thing, tuple) or len(thing) != len(asked):
        return False
    return all([are_follow_papers(point_width(program), checks, papers) for checks, papers in zip(asked, thing)])


def does_trip(program, bound, inputs):
    """Whether any two values are a bound and inputs at which a program trips."""
    found = told_run(program, bound, inputs)
    return found is not None and found[0] == "trips"


def needless_registers(program):
    """The numbers of the statements that are needless as registers."""
    numbers = giving_numbers(program)
    needed = {}
    for entries, _ in all_ways(program):
        for at, entry in enumerate(entries):
            if entry[0] == "value" and entry[1] not in needed and is_needed(program, entries, at):
                needed[entry[1]] = True
    return tuple([number for number in numbers if number not in needed])


def is_needed(program, entries, at):
    """Whether a value at a position of a way does not fit at some point that keeps all other walls of the way."""
    walls, stricts = room_of(program, (*entries[:at], *entries[at + 1:]))
    checks = [(walls, stricts, wall) for wall in kind_borders(entries[at][2], entries[at][3])]
    return judge_checks(point_width(program), checks)[0] == "point"
