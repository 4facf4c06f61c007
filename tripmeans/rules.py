"""Rules: changes of a few statements that are right once for all programs that they fit (part 9).

A match is a dict: for each name of the left side of a rule the name of the program that it stands for.
"""

from tripmeans.errors import BadNumber, BadRule, NoPlace
from tripmeans.integers import is_between
from tripmeans.names import Namer
from tripmeans.places import Place, names_read, names_standing, reading
from tripmeans.programs import count_items, demand_program, given_in, is_kind_within, is_program, is_straight, rows_of
from tripmeans.refining import judge_refines, refines_holds


def is_rule(thing):
    """Whether any value is a rule."""
    if not isinstance(thing, tuple) or len(thing) != 2 or not all([is_program(side) for side in thing]):
        return False
    left, right = thing
    if not is_straight(left) or not is_straight(right):
        return False
    if left[:2] != right[:2] or len(left[3]) != len(right[3]):
        return False
    return is_left(left) and not any([out in dict(right[0]) for out in right[3]])


def is_left(side):
    """Whether a straight program can be the left side of a rule: what it has is read and given by its statements."""
    given = given_in(side[2])
    read = {name: True for item in side[2] for name in names_read(item)}
    if len(set(side[3])) < len(side[3]) or not all([out in given for out in side[3]]):
        return False
    return all([name in read for name, _ in side[0]])


def demand_rule(rule):
    """Raises BadRule for any value that is not a rule."""
    if not is_rule(rule):
        raise BadRule(rule)


def judge_rule(rule):
    """A paper that the right side of a rule refines its left side, or that it does not."""
    demand_rule(rule)
    return judge_refines(rule[0], rule[1])


def rule_holds(rule, thing):
    """Whether any value is a right paper that a rule is right, or that it is not."""
    demand_rule(rule)
    return refines_holds(rule[0], rule[1], thing)


def demand_place(program, rule, number):
    """Raises the error of the first of the three values that is not as it should be."""
    demand_program(program)
    demand_rule(rule)
    if not is_between(number, 0, count_items(program[2]) - 1):
        raise BadNumber(number)


def match_at(program, rule, number):
    """The match of a rule at a number, as an ascending tuple of pairs of names; None if it does not fit."""
    demand_place(program, rule, number)
    match = found_match(Place(program, number), rule[0])
    return None if match is None else tuple(sorted(match.items()))


def does_fit(program, rule, number):
    """Whether a rule fits at a number."""
    return match_at(program, rule, number) is not None


def done_at(program, rule, number):
    """The program with a rule done at a number; raises NoPlace if it does not go there."""
    demand_place(program, rule, number)
    found = found_done(program, rule, number)
    if found is None:
        raise NoPlace(number)
    return found


def places_of(program, rule):
    """The ascending tuple of the numbers at which a rule goes."""
    demand_program(program)
    demand_rule(rule)
    numbers = range(count_items(program[2]))
    return tuple([number for number in numbers if found_done(program, rule, number) is not None])


def found_match(place, left):
    """The match of the left side of a rule at a place; None if it does not fit there."""
    match = matched_names(left[2], place.block[place.at:place.at + len(left[2])])
    if match is None or not are_inputs_known(place, left[0], match):
        return None
    if not all([is_fact_kept(place.whole[1], match[small], match[large]) for small, large in left[1]]):
        return None
    hidden = [match[name] for name in given_in(left[2]) if name not in left[3]]
    standing = names_past(place, len(left[2]))
    return None if any([name in standing for name in hidden]) else match


def matched_names(statements, here):
    """For each name in some statements the one in the statements of a program; None if these are not the same."""
    if len(here) != len(statements):
        return None
    match = {}
    for mine, theirs in zip(statements, here):
        if mine[0] != theirs[0] or mine[2] != theirs[2] or not are_sides_matched(mine, theirs, match):
            return None
        match[mine[1]] = theirs[1]
    return match


def are_sides_matched(mine, theirs, match):
    """Whether two right sides are the same by a match, to which the names that are new in it are added."""
    if mine[0] == "times" and mine[3] != theirs[3]:
        return False
    for name, other in zip(names_read(mine), names_read(theirs)):
        if match.setdefault(name, other) != other:
            return False
    return True


def are_inputs_known(place, ins, match):
    """Whether the inputs of a rule stand for names that are known at a place, of kinds that lie within theirs."""
    known = rows_of(place.whole)[place.number][1]
    for name, kind in ins:
        if match[name] not in known or not is_kind_within(known[match[name]], kind):
            return False
    return True


def is_fact_kept(facts, small, large):
    """Whether two names are one, or a row of facts leads from the small one to the large one."""
    reached = [small]
    for _ in facts:
        reached.extend([high for low, high in facts if low in reached and high not in reached])
    return large in reached


def names_past(place, many):
    """The names that stand in the program behind so many statements from a place on, its outs among them."""
    names = {name: True for name in place.whole[3]}
    for item, _ in rows_of(place.whole)[place.number + many:]:
        names.update({name: True for name in names_standing(item)})
    return names


def found_done(program, rule, number):
    """The program with a rule done at a number; None if the rule does not go there."""
    left, right = rule
    place = Place(program, number)
    match = found_match(place, left)
    if match is None:
        return None
    names = {name: match[name] for name, _ in right[0]}
    for near, far in zip(left[3], right[3]):
        if names.setdefault(far, match[near]) != match[near]:
            return None
    namer = Namer("n", names_in(program))
    for item in right[2]:
        if item[1] not in names:
            names[item[1]] = namer.new_name()
    found = place.with_instead(len(left[2]), [renamed(item, names) for item in right[2]])
    return found if is_program(found) else None


def names_in(program):
    """All names that stand in a program."""
    names = [name for name, _ in program[0]]
    for item, _ in rows_of(program):
        names.extend(names_standing(item))
    return names


def renamed(statement, names):
    """A statement that gives a name, with other names, by this dict, for this one and those that it reads."""
    word, name, kind, one, other = reading(statement, names)
    return (word, names[name], kind, one, other)
