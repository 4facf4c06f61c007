"""Ways: what a run does with one choice at each place where a program chooses, and their rooms (part 3).

A way that is not at its end yet is a pair: its entries so far, and the forms of the names that it gave. Forms
of names that are no longer known stay among them: nothing asks for these until they are given anew.
"""

from tripmeans.errors import BadNumber, TooMany
from tripmeans.integers import is_between
from tripmeans.programs import count_items, demand_program
from tripmeans.runs import demand_run
from tripmeans.walls import is_in_room

MOST_WAYS = 32


def ways_of(program):
    """The tuple of all ways of a program; raises TooMany if there are more than 32."""
    demand_program(program)
    if count_ways(program[2]) > MOST_WAYS:
        raise TooMany(MOST_WAYS)
    return all_ways(program)


def count_ways(block):
    """How many ways lead through a block."""
    count = 1
    for item in block:
        if item[0] == "if":
            count *= count_ways(item[3]) + count_ways(item[4])
        elif item[0] in ("least", "greatest"):
            count *= 2
    return count


def all_ways(program):
    """The tuple of all ways of a program, however many there are."""
    found = led_through(program[2], 0, [((), input_forms(program))])
    return tuple([(entries, tuple([forms[name] for name in program[3]])) for entries, forms in found])


def input_forms(program):
    """The forms of the inputs by their names."""
    names = [name for name, _ in program[0]]
    return {name: tuple([int(name == other) for other in names]) for name in names}


def led_through(block, first, ways):
    """The ways as they go on through a block whose statements are numbered from the number first on."""
    number = first
    for item in block:
        found = []
        for entries, forms in ways:
            if item[0] == "if":
                found.extend(led_through_if(item, number, entries, forms))
            else:
                found.extend(led_past(item, number, entries, forms))
        ways = found
        number += count_items((item,))
    return ways


def led_through_if(statement, number, entries, forms):
    """The ways on which one way goes on through an "if" with this number."""
    small, large = forms[statement[1]], forms[statement[2]]
    then, other = statement[3:]
    near = ((*entries, meets_entry(large, small, False)), forms)
    far = ((*entries, meets_entry(small, large, True)), forms)
    return led_through(then, number + 1, [near]) + led_through(other, number + 1 + count_items(then), [far])


def led_past(statement, number, entries, forms):
    """The ways on which one way goes on past a statement that gives a name."""
    _, name, kind, _, _ = statement
    found = []
    for meets, form in choices_of(statement, forms):
        past = {**forms, name: form}
        found.append(((*entries, *meets, ("value", number, form, kind)), past))
    return found


def choices_of(statement, forms):
    """For each choice at a statement that gives a name: the entries ahead of its value, and its form."""
    word, _, _, left, right = statement
    other = forms[right]
    if word == "times":
        return [((), tuple([left * x for x in other]))]
    one = forms[left]
    if word == "plus":
        return [((), tuple([x + y for x, y in zip(one, other)]))]
    if word == "minus":
        return [((), less(one, other))]
    if word == "least":
        return [((meets_entry(other, one, False),), one), ((meets_entry(one, other, True),), other)]
    return [((meets_entry(one, other, False),), one), ((meets_entry(other, one, True),), other)]


def less(one, other):
    """A form less another form."""
    return tuple([x - y for x, y in zip(one, other)])


def meets_entry(large, small, strict):
    """The entry that the value of a form is not below that of another one, or that it is above it."""
    return ("meets", (*less(large, small), 0), strict)


def kind_borders(form, kind):
    """The two walls of the kind of a form."""
    word, k = kind
    against = tuple([-x for x in form])
    return ((*against, k), (*form, k if word == "both" else 0))


def way_taken(program, bound, given):
    """The position of the way that is taken at a bound with given integers."""
    demand_run(program, bound, given)
    point = (*given, bound)
    kept = [are_met(entries, point) for entries, _ in ways_of(program)]
    return kept.index(True)


def are_met(entries, point):
    """Whether a point keeps the walls of all entries "meets"."""
    walls, stricts = meets_of(entries)
    return is_in_room(walls, stricts, point)


def meets_of(entries):
    """The walls of the entries "meets": those that are not strict, and the strict ones."""
    walls = [entry[1] for entry in entries if entry[0] == "meets" and not entry[2]]
    stricts = [entry[1] for entry in entries if entry[0] == "meets" and entry[2]]
    return tuple(walls), tuple(stricts)


def room_borders(program, number):
    """The room walls of the way at a position."""
    return room_of(program, way_at(program, number)[0])


def bare_borders(program, number):
    """The bare walls of the way at a position."""
    walls, stricts = meets_of(way_at(program, number)[0])
    return (*start_borders(program), *walls), stricts


def way_at(program, number):
    """The way at a position; raises BadNumber for any value that is none."""
    ways = ways_of(program)
    if not is_between(number, 0, len(ways) - 1):
        raise BadNumber(number)
    return ways[number]


def room_of(program, entries):
    """The room walls of a way of a program with these entries."""
    return room_behind(start_borders(program), entries)


def room_behind(start, entries):
    """The walls and stricts of a room, with those of the entries of a way behind the walls that it starts with."""
    walls = list(start)
    stricts = []
    for entry in entries:
        if entry[0] == "value":
            walls.extend(kind_borders(entry[2], entry[3]))
        elif entry[2]:
            stricts.append(entry[1])
        else:
            walls.append(entry[1])
    return tuple(walls), tuple(stricts)


def value_checks(walls, stricts, entries):
    """The checks that all values of a way fit in a room, and the room with all that the way meets put behind.

    For each value the entries "meets" ahead of it are put behind, those that are not strict behind the walls,
    the strict ones behind the stricts.
    """
    checks = []
    for entry in entries:
        if entry[0] == "value":
            checks.extend([(walls, stricts, wall) for wall in kind_borders(entry[2], entry[3])])
        elif entry[2]:
            stricts = (*stricts, entry[1])
        else:
            walls = (*walls, entry[1])
    return checks, walls, stricts


def start_borders(program):
    """The walls of the kinds of all inputs, and of all facts."""
    ins, facts = program[:2]
    forms = input_forms(program)
    walls = []
    for name, kind in ins:
        walls.extend(kind_borders(forms[name], kind))
    for small, large in facts:
        walls.append((*less(forms[large], forms[small]), 0))
    return tuple(walls)
