"""Runs, ways, rooms, checks and papers by the document's own words: what the tests hold the answers against.

Nothing here asks the package, except whether a changed program still is one.
"""

import itertools

from support import is_follows_paper, is_whole, total
from tripmeans.programs import is_program


def ends(kind, bound):
    """The least and the greatest number of the range of a kind [2.1]."""
    return (-kind[1] * bound if kind[0] == "both" else 0), kind[1] * bound


def numbered(block, count):
    """The statements of a block with their numbers [2.3], an "if" with those of its arms."""
    found = []
    for item in block:
        number = next(count)
        arms = [numbered(arm, count) for arm in item[3:]] if item[0] == "if" else []
        found.append((number, item, arms))
    return found


def is_admitted(program, bound, given):
    """Whether any values are a bound and given integers [2.5]."""
    if not is_whole(bound) or bound < 1 or type(given) is not tuple or len(given) != len(program[0]):
        return False
    if not all(is_whole(x) for x in given):
        return False
    named = dict(zip([name for name, _ in program[0]], given))
    fit = all(ends(kind, bound)[0] <= named[name] <= ends(kind, bound)[1] for name, kind in program[0])
    return fit and all(named[small] <= named[large] for small, large in program[1])


def all_given(program, bound):
    """All tuples of given integers at a bound."""
    ranges = [range(ends(kind, bound)[0], ends(kind, bound)[1] + 1) for _, kind in program[0]]
    return [given for given in itertools.product(*ranges) if is_admitted(program, bound, given)]


RECKONED = {
    "plus": lambda one, other: one + other, "minus": lambda one, other: one - other,
    "times": lambda one, other: one * other, "least": min, "greatest": max,
}


def walked(program, bound, given):
    """What a run reckons, and what it comes to [2.5]."""
    values = dict(zip([name for name, _ in program[0]], given))
    pairs = []
    waiting = numbered(program[2], itertools.count())[::-1]
    while waiting:
        number, item, arms = waiting.pop()
        if item[0] == "if":
            waiting.extend(reversed(arms[0] if values[item[1]] <= values[item[2]] else arms[1]))
            continue
        word, name, kind, one, other = item
        value = RECKONED[word](one if word == "times" else values[one], values[other])
        pairs.append((number, value))
        if not ends(kind, bound)[0] <= value <= ends(kind, bound)[1]:
            return tuple(pairs), ("trips", number, value)
        values[name] = value
    return tuple(pairs), ("ends", tuple(values[name] for name in program[3]))


def came_to(program, bound, given):
    """What a run comes to; None if any values are not admitted."""
    return walked(program, bound, given)[1] if is_admitted(program, bound, given) else None


def minus(one, other):
    return tuple(x - y for x, y in zip(one, other))


def went(program, choices):
    """The way with these choices (0 is the first one) as the places come, 0 where they are out; all its choices."""
    names = [name for name, _ in program[0]]
    forms = {name: tuple(int(k == at) for at in range(len(names))) for k, name in enumerate(names)}
    entries, row, left = [], [], list(choices)
    waiting = numbered(program[2], itertools.count())[::-1]
    while waiting:
        number, item, arms = waiting.pop()
        chosen = 0
        if item[0] in ("if", "least", "greatest"):
            chosen = left.pop(0) if left else 0
            row.append(chosen)
            one, other = (forms[name] for name in (item[1:3] if item[0] == "if" else item[3:5]))
            # Which one is at least the other one if the first choice is made.
            more, less = (one, other) if item[0] == "greatest" else (other, one)
            if chosen:
                more, less = less, more
            entries.append(("meets", minus(more, less) + (0,), bool(chosen)))
        if item[0] == "if":
            waiting.extend(reversed(arms[chosen]))
            continue
        word, name, kind, left_side, right_side = item
        if word == "times":
            form = tuple(left_side * x for x in forms[right_side])
        elif word in ("plus", "minus"):
            sign = 1 if word == "plus" else -1
            form = tuple(x + sign * y for x, y in zip(forms[left_side], forms[right_side]))
        else:
            form = forms[item[3 + chosen]]
        entries.append(("value", number, form, kind))
        forms[name] = form
    return (tuple(entries), tuple(forms[name] for name in program[3])), row


def ways(program, most=10 ** 6):
    """All ways in the order of their rows of choices [3.2]; only so many, and one more."""
    found, row = [], []
    while len(found) <= most:
        way, row = went(program, row)
        found.append(way)
        while row and row[-1] == 1:
            row.pop()
        if not row:
            break
        row[-1] = 1
    return tuple(found)


def two(form, kind):
    """The two walls of a kind of a form [3.1]."""
    return [tuple(-x for x in form) + (kind[1],), tuple(form) + (kind[1] if kind[0] == "both" else 0,)]


def starting(program):
    """The walls of the inputs and the facts [3.3]."""
    names = [name for name, _ in program[0]]
    found = []
    for k, (_, kind) in enumerate(program[0]):
        found += two([int(k == at) for at in range(len(names))], kind)
    for small, large in program[1]:
        wall = [0] * (len(names) + 1)
        wall[names.index(large)] += 1
        wall[names.index(small)] -= 1
        found.append(tuple(wall))
    return found


def room(program, way, bare=False):
    """The room walls of a way, or its bare walls [3.3]."""
    walls, stricts = starting(program), []
    for entry in way[0]:
        if entry[0] == "value" and not bare:
            walls += two(entry[2], entry[3])
        if entry[0] == "meets":
            (stricts if entry[2] else walls).append(entry[1])
    return tuple(walls), tuple(stricts)


def is_in(walls, stricts, point):
    return all(total(w, point) >= 0 for w in walls) and all(total(s, point) > 0 for s in stricts)


def all_checks(one, other):
    """The checks of two programs [5.2]."""
    found = []
    for p in ways(one):
        for q in ways(other):
            walls, stricts = room(one, p)
            for entry in q[0]:
                if entry[0] == "meets" and entry[2]:
                    stricts += (entry[1],)
                elif entry[0] == "meets":
                    walls += (entry[1],)
                else:
                    found += [(walls, stricts, wall) for wall in two(entry[2], entry[3])]
            for near, far in zip(p[1], q[1]):
                found += [(walls, stricts, minus(near, far) + (0,)), (walls, stricts, minus(far, near) + (0,))]
    return tuple(found)


def more_checks(one, other):
    """What the papers of [4.2] are for: the walls of the second one's values, from the first one's room walls."""
    walls, _ = room(one, ways(one)[0])
    return [(walls, (), wall) for entry in ways(other)[0][0] for wall in two(entry[2], entry[3])]


def are_papers(width, checks, thing):
    """A tuple of papers (m, ws, ss, b), one for each check."""
    if type(thing) is not tuple or len(thing) != len(checks) or not all(type(paper) is tuple for paper in thing):
        return False
    return all(is_follows_paper(width, *check, ("weights", *paper)) for check, paper in zip(checks, thing))


def is_worded(thing, word, many):
    return type(thing) is tuple and len(thing) == many and type(thing[0]) is str and thing[0] == word


def is_never_more_paper(one, other, thing):
    """A paper of [4.2]."""
    if is_worded(thing, "weights", 2):
        return are_papers(len(one[0]) + 1, more_checks(one, other), thing[1])
    if not is_worded(thing, "trips", 3) or not is_admitted(one, *thing[1:]):
        return False
    return came_to(one, *thing[1:])[0] == "ends" and came_to(other, *thing[1:])[0] == "trips"


def is_mean_paper(held, item, thing):
    """A paper of [4.3]."""
    form, k = item
    if is_worded(thing, "mean", 3):
        _, m, weights = thing
        if not is_whole(m) or m < 1 or type(weights) is not tuple or len(weights) != len(held):
            return False
        if not all(is_whole(x) for x in weights):
            return False
        sums = [sum(f[at] * x for (f, _), x in zip(held, weights)) for at in range(len(form))]
        return sums == [m * x for x in form] and sum(abs(x) * size for (_, size), x in zip(held, weights)) <= m * k
    if not is_worded(thing, "point", 3):
        return False
    _, bound, inputs = thing
    if not is_whole(bound) or bound < 1 or type(inputs) is not tuple or len(inputs) != len(form):
        return False
    if not all(is_whole(x) for x in inputs):
        return False
    return abs(total(form, inputs)) > k * bound and all(abs(total(f, inputs)) <= s * bound for f, s in held)


def do_part(one, other, bound, inputs):
    """Whether any values are admitted, and the first program ends there, the second one not so [5.3]."""
    if not is_admitted(one, bound, inputs):
        return False
    return came_to(one, bound, inputs)[0] == "ends" and came_to(one, bound, inputs) != came_to(other, bound, inputs)


def is_refines_paper(one, other, thing):
    """A paper of [5.3]."""
    if is_worded(thing, "refines", 2):
        return are_papers(len(one[0]) + 1, all_checks(one, other), thing[1])
    return is_worded(thing, "parts", 3) and do_part(one, other, *thing[1:])


def is_alike_paper(one, other, thing):
    """A paper of [5.3] for being alike."""
    if is_worded(thing, "alike", 3):
        return (is_refines_paper(one, other, ("refines", thing[1]))
                and is_refines_paper(other, one, ("refines", thing[2])))
    if not is_worded(thing, "parts", 4) or not is_whole(thing[1]) or thing[1] not in (0, 1):
        return False
    return do_part(*((one, other) if thing[1] == 0 else (other, one)), *thing[2:])


def changed_program(rand, program, words=("plus", "minus", "times", "least", "greatest")):
    """A program that differs from a program in one statement, or in its outs; or the program itself."""
    for _ in range(20):
        places = list(giving_places(program[2]))
        outs = program[3]
        body = program[2]
        if not places or rand.randrange(6) == 0:
            names = [name for name, _ in program[0]] + [item[1] for _, item in places]
            outs = tuple(rand.choice(names) if rand.randrange(2) else name for name in outs)
        else:
            place, item = rand.choice(places)
            body = replaced(body, place, changed_statement(rand, item, words))
        found = (*program[:2], body, outs)
        if is_program(found):
            return found
    return program


def giving_places(block, place=()):
    """The places of all statements that give a name, as tuples of positions, with these statements."""
    for k, item in enumerate(block):
        if item[0] == "if":
            yield from giving_places(item[3], (*place, k, 3))
            yield from giving_places(item[4], (*place, k, 4))
        else:
            yield (*place, k), item


def replaced(block, place, item):
    """A tuple with another item at a place, which is told by the positions that lead to it."""
    k, *rest = place
    return (*block[:k], replaced(block[k], rest, item) if rest else item, *block[k + 1:])


def changed_statement(rand, item, words):
    word, name, kind, one, other = item
    if rand.randrange(2):
        return (word, name, (rand.choice(("both", "up")), max(1, kind[1] + rand.choice((-1, 0, 1, 1)))), one, other)
    if word == "times":
        return (word, name, kind, one + rand.choice((-1, 1)), other)
    if rand.randrange(3) == 0:
        return (word, name, kind, other, one)
    return (rand.choice([w for w in words if w != "times"]), name, kind, one, other)
