"""Parts 6 to 9 by the document's own words: what the tests hold the answers against."""

import itertools

from support import is_whole, total
from tripmeans.programs import is_program
from words import (RECKONED, are_papers, came_to, ends, is_admitted, is_in, is_worded, minus, numbered, starting,
                   two, walked, ways)


def width_of(program):
    return len(program[0]) + 1


def statements(program):
    """All statements by their numbers [2.3]."""
    found = {}
    waiting = numbered(program[2], itertools.count())
    while waiting:
        number, item, arms = waiting.pop()
        found[number] = item
        waiting.extend(row for arm in arms for row in arm)
    return [found[number] for number in range(len(found))]


def giving(program):
    """The numbers of the statements other than an "if"."""
    return [number for number, item in enumerate(statements(program)) if item[0] != "if"]


def untripped(program, given):
    """The values of all statements that are reached if no register ever trips, by their numbers [6.1]."""
    values = dict(zip([name for name, _ in program[0]], given))
    found = {}
    waiting = numbered(program[2], itertools.count())[::-1]
    while waiting:
        number, item, arms = waiting.pop()
        if item[0] == "if":
            waiting.extend(reversed(arms[0] if values[item[1]] <= values[item[2]] else arms[1]))
            continue
        word, name, _, one, other = item
        found[number] = values[name] = RECKONED[word](one if word == "times" else values[one], values[other])
    return found, tuple(values[name] for name in program[3])


def does_fit(kind, bound, value):
    return ends(kind, bound)[0] <= value <= ends(kind, bound)[1]


def reach_checks(program, number, kind):
    """What the papers "fits" are for [6.2]: for each way on which a statement is reached the walls of a kind."""
    found = []
    for entries, _ in ways(program):
        walls, stricts = tuple(starting(program)), ()
        for entry in entries:
            if entry[0] == "meets" and entry[2]:
                stricts += (entry[1],)
            elif entry[0] == "meets":
                walls += (entry[1],)
            elif entry[1] == number:
                found += [(walls, stricts, wall) for wall in two(entry[2], kind)]
    return found


def is_kind_paper(program, number, kind, thing):
    """A paper of [6.2]."""
    if is_worded(thing, "fits", 2):
        return are_papers(width_of(program), reach_checks(program, number, kind), thing[1])
    if not is_worded(thing, "beyond", 3) or not is_admitted(program, *thing[1:]):
        return False
    values, _ = untripped(program, thing[2])
    return number in values and not does_fit(kind, thing[1], values[number])


def is_never_paper(program, thing):
    """A paper of [6.3]."""
    if is_worded(thing, "never", 2):
        numbers, items = giving(program), statements(program)
        if type(thing[1]) is not tuple or len(thing[1]) != len(numbers):
            return False
        return all(are_papers(width_of(program), reach_checks(program, number, items[number][2]), papers)
                   for number, papers in zip(numbers, thing[1]))
    return is_worded(thing, "trips", 3) and (came_to(program, *thing[1:]) or ("",))[0] == "trips"


def needed_somewhere(program, number, bound, given):
    """Whether all other values of the way that is taken fit there, and that of the statement does not [6.4]."""
    values, _ = untripped(program, given)
    items = statements(program)
    wrong = [at for at, value in values.items() if not does_fit(items[at][2], bound, value)]
    return wrong == [number]


def needs(wanted):
    """The need walls of a wanted [7.1]."""
    found = starting(wanted)
    for form, kind in wanted[2]:
        found += two(form, kind)
    return tuple(found)


def single_forms(program):
    """The forms of the values of a single program, with their kinds."""
    return [(entry[2], entry[3]) for entry in ways(program)[0][0]]


def is_free_program(wanted, k, thing):
    """A free program for a wanted, as the papers ask for it [7.1, 7.3]; its values are held at many points."""
    if not is_program(thing) or thing[0] != wanted[0] or thing[1] != wanted[1]:
        return False
    body, many = thing[2], len(thing[2]) - len(wanted[2])
    if many < 0 or any(item[0] not in ("plus", "minus") for item in body):
        return False
    last = tuple(item[1] for item in body[many:])
    if thing[3] != last or any(name in last for item in body for name in item[3:]):
        return False
    found = single_forms(thing)
    return tuple(found[many:]) == wanted[2] and all(kind == ("both", k) for _, kind in found[:many])


def plus(one, other):
    return tuple(x + y for x, y in zip(one, other))


def made_by(forms):
    """All sums and differences of two forms, also of one of them twice."""
    return {f for one in forms for other in forms for f in (plus(one, other), minus(one, other))}


def lots(tree):
    """The lots of a tree [8.1], and all of its integers."""
    if type(tree) is int:
        return [], (tree,)
    (one, near), (other, far) = lots(tree[0]), lots(tree[1])
    whole = tuple(sorted(near + far))
    return sorted(one + other + [whole]), whole


def lot_walls(items, tree):
    """The walls of the lots of a tree [8.2]."""
    found = []
    for lot in lots(tree)[0]:
        form = [(-1 if item == -1 else 1) if at in lot else 0 for at, item in enumerate(items)]
        found += two(form, ("both", 1))
    return found


def item_walls(items):
    """The walls of the inputs of items."""
    found = []
    for at, item in enumerate(items):
        found += two([int(k == at) for k in range(len(items))], ("both" if item == 0 else "up", 1))
    return found


def tree_checks(items, one, other):
    walls = tuple(item_walls(items) + lot_walls(items, one))
    return [(walls, (), wall) for wall in lot_walls(items, other)]


def is_tree_paper(items, one, other, thing):
    """A paper of [8.2]."""
    if is_worded(thing, "weights", 2):
        return are_papers(len(items) + 1, tree_checks(items, one, other), thing[1])
    if not is_worded(thing, "trips", 3):
        return False
    _, bound, inputs = thing
    if not is_whole(bound) or bound < 1 or type(inputs) is not tuple or len(inputs) != len(items):
        return False
    if not all(is_whole(x) for x in inputs):
        return False
    point = (*inputs, bound)
    keeps = is_in(item_walls(items) + lot_walls(items, one), (), point)
    return keeps and not is_in(lot_walls(items, other), (), point)


def tree_trips(items, tree, bound, inputs):
    return any(total(wall, (*inputs, bound)) < 0 for wall in lot_walls(items, tree))


def states_of(rounds):
    return rounds[0][0][:rounds[1]]


def items_of(rounds):
    return rounds[0][0][rounds[1]:]


def done(rounds, bound, inputs):
    """The next states behind a round; None if it trips [10.1]."""
    found = walked(rounds[0], bound, inputs)[1]
    if found[0] == "trips":
        return None
    fit = all(does_fit(kind, bound, x) for (_, kind), x in zip(states_of(rounds), found[1]))
    return found[1] if fit else None


def keep(walls, states, bound):
    return all(total(wall, (*states, bound)) >= 0 for wall in walls)


def spread(wall, places, width):
    """A wall, or a form, whose items but those behind are put at some places."""
    found = [0] * width
    for place, x in zip(places, wall):
        found[place] = x
    return tuple(found) + tuple(wall[len(places):])


def led(wall, outs):
    """The sum of the items of a wall times the forms of outs, with its last item [10.2]."""
    return tuple(sum(x * out[at] for x, out in zip(wall, outs)) for at in range(len(outs[0]))) + wall[-1:]


def round_checks(walls, stricts, entries, outs, kinds, more):
    found = []
    for entry in entries:
        if entry[0] == "meets" and entry[2]:
            stricts += (entry[1],)
        elif entry[0] == "meets":
            walls += (entry[1],)
        else:
            found += [(walls, stricts, wall) for wall in two(entry[2], entry[3])]
    for form, kind in zip(outs, kinds):
        found += [(walls, stricts, wall) for wall in two(form, kind)]
    return found + [(walls, stricts, wall) for wall in more]


def kept_checks(rounds, bounds):
    """The checks of [10.2]."""
    body, s = rounds
    n = len(body[0])
    walls = tuple(starting(body)) + tuple(spread(wall, range(s), n) for wall in bounds)
    kinds = [kind for _, kind in body[0][:s]]
    found = []
    for entries, outs in ways(body):
        found += round_checks(walls, (), entries, outs, kinds, [led(wall, outs) for wall in bounds])
    return found


def is_kept_paper(rounds, bounds, thing):
    """A paper of [10.2]."""
    body, s = rounds
    if is_worded(thing, "kept", 2):
        return are_papers(width_of(body), kept_checks(rounds, bounds), thing[1])
    if not is_worded(thing, "lost", 3) or not is_admitted(body, *thing[1:]):
        return False
    _, bound, inputs = thing
    if not keep(bounds, inputs[:s], bound):
        return False
    outs = done(rounds, bound, inputs)
    return outs is None or not keep(bounds, outs, bound)


def coupled_checks(one, other, couplings):
    """The checks of [10.3]."""
    s, t, m = one[1], other[1], len(items_of(one))
    n = s + t + m
    near, far = [*range(s), *range(s + t, n)], list(range(s, n))
    kinds = [kind for _, kind in (*states_of(one), *states_of(other), *items_of(one))]
    start = []
    for k, kind in enumerate(kinds):
        start += two([int(k == at) for at in range(n)], kind)
    names = [name for name, _ in items_of(one)]
    for small, large in one[0][1]:
        wall = [0] * (n + 1)
        wall[s + t + names.index(large)] += 1
        wall[s + t + names.index(small)] -= 1
        start.append(tuple(wall))
    start += [spread(wall, range(s + t), n) for wall in couplings]
    found = []
    for entries, outs in ways(one[0]):
        walls, stricts = tuple(start), ()
        outs = [spread(out, near, n) for out in outs]
        for entry in moved(entries, near, n):
            if entry[0] == "value":
                walls += tuple(two(entry[2], entry[3]))
            elif entry[2]:
                stricts += (entry[1],)
            else:
                walls += (entry[1],)
        for out, kind in zip(outs, kinds[:s]):
            walls += tuple(two(out, kind))
        for far_entries, far_outs in ways(other[0]):
            far_outs = [spread(out, far, n) for out in far_outs]
            found += round_checks(walls, stricts, moved(far_entries, far, n), far_outs, kinds[s:s + t],
                                  [led(wall, [*outs, *far_outs]) for wall in couplings])
    return found


def moved(entries, places, width):
    """The entries of a way over more inputs."""
    return [(*entry[:2], spread(entry[2], places, width), entry[3]) if entry[0] == "value"
            else (entry[0], spread(entry[1], places, width), entry[2]) for entry in entries]


def coupled_inputs(one, other, inputs):
    """The inputs of either body."""
    s, t = one[1], other[1]
    return (*inputs[:s], *inputs[s + t:]), tuple(inputs[s:])


def is_coupled_paper(one, other, couplings, thing):
    """A paper of [10.3]."""
    s, t = one[1], other[1]
    n = len(one[0][0]) + t
    if is_worded(thing, "coupled", 2):
        return are_papers(n + 1, coupled_checks(one, other, couplings), thing[1])
    if not is_worded(thing, "lost", 3) or type(thing[2]) is not tuple or len(thing[2]) != n:
        return False
    return is_lost(one, other, couplings, thing[1], thing[2])


def is_lost(one, other, couplings, bound, inputs):
    s, t = one[1], other[1]
    near, far = coupled_inputs(one, other, inputs)
    if not is_admitted(one[0], bound, near) or not is_admitted(other[0], bound, far):
        return False
    if not keep(couplings, inputs[:s + t], bound):
        return False
    outs, far_outs = done(one, bound, near), done(other, bound, far)
    if outs is None:
        return False
    return far_outs is None or not keep(couplings, (*outs, *far_outs), bound)


def trip_checks(program, number):
    """What the papers "never" of [11.1] are for."""
    found = []
    for entries, _ in ways(program):
        walls, stricts = tuple(starting(program)), ()
        for entry in entries:
            if entry[0] == "meets" and entry[2]:
                stricts += (entry[1],)
            elif entry[0] == "meets":
                walls += (entry[1],)
            else:
                if entry[1] == number:
                    found += [(walls, stricts, wall) for wall in two(entry[2], entry[3])]
                walls += tuple(two(entry[2], entry[3]))
    return found


def is_trip_paper(program, number, thing):
    """A paper of [11.1]."""
    if is_worded(thing, "never", 2):
        return are_papers(width_of(program), trip_checks(program, number), thing[1])
    return is_worded(thing, "trips", 3) and (came_to(program, *thing[1:]) or ("", None))[:2] == ("trips", number)


def apart(one, other, bound, given):
    """Whether two programs part at admitted inputs [11.3]."""
    near, far = walked(one, bound, given)[1], walked(other, bound, given)[1]
    return near != far and not near[0] == far[0] == "trips"


def is_bench_fault(programs, promise, thing):
    """A fault of a promise that is not kept [12.2]."""
    if promise[0] == "straight":
        first = [number for number, item, _ in numbered(programs[promise[1]][2], itertools.count()) if item[0] == "if"][:1]
        return is_worded(thing, "if", 2) and is_whole(thing[1]) and [thing[1]] == first
    if promise[0] == "never trips":
        return is_worded(thing, "trips", 3) and (came_to(programs[promise[1]], *thing[1:]) or ("",))[0] == "trips"
    one, other = programs[promise[1]], programs[promise[2]]
    if one[:2] != other[:2] or len(one[3]) != len(other[3]):
        return is_worded(thing, "unlike", 1)
    word = {"refines": "parts", "alike": "apart"}[promise[0]]
    if not is_worded(thing, word, 3) or not is_admitted(one, *thing[1:]):
        return False
    if word == "parts":
        near = came_to(other, *thing[1:])
        return near[0] == "ends" and near != came_to(one, *thing[1:])
    return apart(one, other, *thing[1:])
