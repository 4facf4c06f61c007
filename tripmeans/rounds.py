"""Rounds: programs that are done again and again, bounds that they keep, coupled and unrolled rounds (part 10).

What is asked of rounds is told by checks, as in part 5, over walls of all states, of the items, and the bound.
"""

from tripmeans.errors import BadNumber, BadRounds, BadWalls, OtherItems, TooMany
from tripmeans.integers import are_integers, is_between, value_at
from tripmeans.names import Namer
from tripmeans.papers import are_follow_papers, judge_checks
from tripmeans.places import reading
from tripmeans.programs import MOST_INS, MOST_STATEMENTS, count_items, given_in, is_program
from tripmeans.runs import is_in_range, told_run
from tripmeans.ways import all_ways, kind_borders, less, room_behind, start_borders, value_checks

MOST_STATES = 3
MOST_BOUNDS = 12
MOST_TIMES = 4


def are_rounds(thing):
    """Whether any value is rounds."""
    if not isinstance(thing, tuple) or len(thing) != 2 or not is_program(thing[0]):
        return False
    body, s = thing
    if not is_between(s, 1, MOST_STATES) or len(body[0]) < s or len(body[3]) != s:
        return False
    states = [name for name, _ in body[0][:s]]
    return not any([name in states for fact in body[1] for name in fact])


def demand_rounds(rounds):
    """Raises BadRounds for any value that is not rounds."""
    if not are_rounds(rounds):
        raise BadRounds(rounds)


def demand_bounds(width, bounds):
    """Raises BadWalls for any value that is not at most 12 walls of the width."""
    if not isinstance(bounds, tuple) or len(bounds) > MOST_BOUNDS or not all([are_integers(w, width) for w in bounds]):
        raise BadWalls(bounds)


def state_kinds(rounds):
    """The kinds of the states, in order."""
    body, s = rounds
    return [kind for _, kind in body[0][:s]]


def widened(row, at, many):
    """A form or a wall with so many more places, all of them 0, from a position on."""
    return (*row[:at], *[0] * many, *row[at:])


def kept_checks(rounds, bounds):
    """The checks that bounds are kept."""
    body, s = rounds
    room = (*start_borders(body), *[widened(wall, s, len(body[0]) - s) for wall in bounds])
    checks = []
    for entries, outs in all_ways(body):
        more, walls, stricts = value_checks(room, (), entries)
        checks.extend(more)
        asked = (*out_borders(outs, state_kinds(rounds)), *[led(wall, outs) for wall in bounds])
        checks.extend([(walls, stricts, wall) for wall in asked])
    return checks


def out_borders(outs, kinds):
    """The walls that the forms of outs keep if they fit these kinds, in order."""
    walls = []
    for form, kind in zip(outs, kinds):
        walls.extend(kind_borders(form, kind))
    return walls


def led(wall, outs):
    """The wall to which a wall of states is led by the forms of outs."""
    form = [sum([x * out[at] for x, out in zip(wall, outs)]) for at in range(len(outs[0]))]
    return (*form, wall[-1])


def demand_kept(rounds, bounds):
    """Raises the error of the first of the two values that is not as it should be."""
    demand_rounds(rounds)
    demand_bounds(rounds[1] + 1, bounds)


def judge_kept(rounds, bounds):
    """A paper that bounds are kept, or a round in which they are lost."""
    demand_kept(rounds, bounds)
    return judged("kept", len(rounds[0][0]) + 1, kept_checks(rounds, bounds))


def judged(word, width, checks):
    """A paper with a word for all of the checks, or a point at which one is not so."""
    found = judge_checks(width, checks)
    if found[0] == "point":
        return ("lost", found[1][-1], found[1][:-1])
    return (word, found[1])


def kept_holds(rounds, bounds, thing):
    """Whether any value is a right paper that bounds are kept, or that they are not."""
    demand_kept(rounds, bounds)
    if not isinstance(thing, tuple):
        return False
    if len(thing) == 2 and thing[0] == "kept":
        return are_follow_papers(len(rounds[0][0]) + 1, kept_checks(rounds, bounds), thing[1])
    return len(thing) == 3 and thing[0] == "lost" and does_lose(rounds, bounds, thing[1], thing[2])


def does_lose(rounds, bounds, bound, inputs):
    """Whether any two values are a bound and inputs that keep bounds, at which a round trips or loses them."""
    body, s = rounds
    if told_run(body, bound, inputs) is None or not are_kept(bounds, inputs[:s], bound):
        return False
    outs = next_states(rounds, bound, inputs)
    return outs is None or not are_kept(bounds, outs, bound)


def are_kept(bounds, states, bound):
    """Whether states keep all bounds at a bound."""
    return all([value_at(wall, (*states, bound)) >= 0 for wall in bounds])


def next_states(rounds, bound, inputs):
    """The states behind a round from admitted inputs; None if the round trips."""
    found = told_run(rounds[0], bound, inputs)
    if found[0] == "trips":
        return None
    fit = all([is_in_range(kind, bound, out) for kind, out in zip(state_kinds(rounds), found[1])])
    return found[1] if fit else None


def items_of(rounds):
    """The kinds of the items, in order, and the facts by the positions of their items, in the order of the facts."""
    body, s = rounds
    names = [name for name, _ in body[0][s:]]
    facts = [(names.index(small), names.index(large)) for small, large in body[1]]
    return [kind for _, kind in body[0][s:]], facts


def demand_coupled(one, other, couplings):
    """Raises the error of the first of the three values that is not as it should be."""
    demand_rounds(one)
    demand_rounds(other)
    kinds, facts = items_of(one)
    other_kinds, other_facts = items_of(other)
    if kinds != other_kinds or sorted(facts) != sorted(other_facts):
        raise OtherItems()
    demand_bounds(one[1] + other[1] + 1, couplings)


def coupled_width(one, other):
    """The width of the walls over the states of both rounds, the items and the bound."""
    return len(one[0][0]) + other[1] + 1


def coupled_checks(one, other, couplings):
    """The checks that couplings are kept."""
    s, t = one[1], other[1]
    many = len(one[0][0]) - s
    start = (*coupled_start(one, other), *[widened(wall, s + t, many) for wall in couplings])
    far_ways = [widened_way(way, 0, s) for way in all_ways(other[0])]
    checks = []
    for entries, outs in [widened_way(way, s, t) for way in all_ways(one[0])]:
        near, near_stricts = room_behind(start, entries)
        room = (*near, *out_borders(outs, state_kinds(one)))
        for far_entries, far_outs in far_ways:
            more, walls, stricts = value_checks(room, near_stricts, far_entries)
            checks.extend(more)
            all_outs = outs + far_outs
            asked = (*out_borders(far_outs, state_kinds(other)), *[led(wall, all_outs) for wall in couplings])
            checks.extend([(walls, stricts, wall) for wall in asked])
    return checks


def coupled_start(one, other):
    """The walls of the kinds of all states and items, and of the facts in the order of the first rounds'."""
    ahead = one[1] + other[1]
    kinds, facts = items_of(one)
    all_kinds = [*state_kinds(one), *state_kinds(other), *kinds]
    forms = [tuple([int(at == k) for k in range(len(all_kinds))]) for at in range(len(all_kinds))]
    walls = out_borders(forms, all_kinds)
    for small, large in facts:
        walls.append((*less(forms[ahead + large], forms[ahead + small]), 0))
    return walls


def widened_way(way, at, many):
    """A way with so many more inputs from a position on."""
    entries = []
    for entry in way[0]:
        if entry[0] == "value":
            entries.append((*entry[:2], widened(entry[2], at, many), entry[3]))
        else:
            entries.append(("meets", widened(entry[1], at, many), entry[2]))
    return entries, tuple([widened(form, at, many) for form in way[1]])


def judge_coupled(one, other, couplings):
    """A paper that couplings are kept, or a round of both in which they are lost."""
    demand_coupled(one, other, couplings)
    return judged("coupled", coupled_width(one, other), coupled_checks(one, other, couplings))


def coupled_holds(one, other, couplings, thing):
    """Whether any value is a right paper that couplings are kept, or that they are not."""
    demand_coupled(one, other, couplings)
    if not isinstance(thing, tuple):
        return False
    if len(thing) == 2 and thing[0] == "coupled":
        return are_follow_papers(coupled_width(one, other), coupled_checks(one, other, couplings), thing[1])
    return len(thing) == 3 and thing[0] == "lost" and does_part_ways(one, other, couplings, thing[1], thing[2])


def does_part_ways(one, other, couplings, bound, inputs):
    """Whether any two values are a bound and inputs of both rounds at which couplings are kept, and then lost."""
    s, t = one[1], other[1]
    if not are_integers(inputs, coupled_width(one, other) - 1):
        return False
    near, far = (*inputs[:s], *inputs[s + t:]), inputs[s:]
    if told_run(one[0], bound, near) is None or told_run(other[0], bound, far) is None:
        return False
    if not are_kept(couplings, inputs[:s + t], bound):
        return False
    near_outs, far_outs = next_states(one, bound, near), next_states(other, bound, far)
    if near_outs is None:
        return False
    return far_outs is None or not are_kept(couplings, near_outs + far_outs, bound)


def unrolled(rounds, r):
    """The program of rounds that are done r times."""
    demand_rounds(rounds)
    if not is_between(r, 1, MOST_TIMES):
        raise BadNumber(r)
    body, s = rounds
    if s + r * (len(body[0]) - s) > MOST_INS:
        raise TooMany(MOST_INS)
    if r * (count_items(body[2]) + s) > MOST_STATEMENTS:
        raise TooMany(MOST_STATEMENTS)
    states = [name for name, _ in body[0][:s]]
    items = [name for name, _ in body[0][s:]]
    namer = Namer("", states)
    # The items of all times are named ahead of all statements.
    times = [{name: namer.new_name() for name in items} for _ in range(r)]
    ins, facts, statements = list(body[0][:s]), [], []
    for names in times:
        ins.extend([(names[name], kind) for name, kind in body[0][s:]])
        facts.extend([(names[small], names[large]) for small, large in body[1]])
        states = put_round(statements, rounds, {**names, **state_names(rounds, states)}, namer)
    return (tuple(ins), tuple(sorted(facts)), tuple(statements), tuple(states))


def state_names(rounds, states):
    """For the name of each state in the body the name that it has now."""
    body, s = rounds
    return {name: state for (name, _), state in zip(body[0][:s], states)}


def put_round(statements, rounds, names, namer):
    """Puts the statements of one more round behind others; returns the names of the next states."""
    body, s = rounds
    block, known = named_anew(body[2], names, {}, namer)
    statements.extend(block)
    states = []
    for (_, kind), out in zip(body[0][:s], body[3]):
        states.append(namer.new_name())
        statements.append(("times", states[-1], kind, 1, known[out]))
    return states


def named_anew(block, names, asked, namer):
    """A block with new names for all that its statements give, and the names of what is known behind it.

    Names that are known ahead have those of a dict, and names that the first arm gives, for a second one, those
    that are asked for.
    """
    known = dict(names)
    items = []
    for item in block:
        if item[0] == "if":
            then, behind = named_anew(item[3], known, {}, namer)
            given = {name: behind[name] for name in given_in(item[3])}
            other, _ = named_anew(item[4], known, given, namer)
            items.append(("if", known[item[1]], known[item[2]], then, other))
            known.update({name: given[name] for name in given_in(item[4]) if name in given})
        else:
            word, name, kind, left, right = reading(item, known)
            known[name] = asked[name] if name in asked else namer.new_name()
            items.append((word, known[name], kind, left, right))
    return tuple(items), known
