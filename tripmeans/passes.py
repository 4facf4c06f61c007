"""Passes: changes of a program at a place, whose result refines the program, whatever it is (part 9).

What a pass makes is told by a function for its word: it returns the result, which may be no program, or None
if what the pass asks for is not so.
"""

from tripmeans.errors import BadNumber, BadPass, NoPlace
from tripmeans.integers import is_between, is_integer
from tripmeans.places import Place, block_at, names_read, reading
from tripmeans.programs import count_items, demand_program, is_kind, is_kind_within, is_program, known_past, rows_of

PASS_WORDS = ("drop", "hoist", "merge", "share", "sink", "swap")
TIDY_WORDS = ("merge", "share", "drop")
EVEN_WORDS = ("plus", "least", "greatest")


def shared(place):
    """The result of "share": an earlier name for one that is reckoned in the same way."""
    name = place.item[1]
    twin = first_twin(place)
    if twin is None or is_joined(place, name):
        return None
    names = {name: twin}
    found = place.with_rest([reading(item, names) for item in place.block[place.at + 1:]])
    if place.trail:
        return found
    return (*found[:3], tuple([names.get(out, out) for out in found[3]]))


def first_twin(place):
    """The name that the first of the statements gives that reckon the same ahead of a place; None if none does."""
    positions = [at for at, _ in place.trail] + [place.at]
    # The blocks around come first: their statements ahead of the place have lesser numbers.
    for depth, position in enumerate(positions):
        for other in block_at(place.whole[2], place.trail[:depth])[:position]:
            if do_reckon_same(place.item, other):
                return other[1]
    return None


def do_reckon_same(one, other):
    """Whether two statements give names, and reckon the same for these."""
    if one[0] == "if" or one[0] != other[0]:
        return False
    return one[3:] == other[3:] or one[0] in EVEN_WORDS and one[3:] == (other[4], other[3])


def is_joined(place, name):
    """Whether a name that a block gives is known behind the "if" whose arm the block is, if it is one."""
    if not place.trail:
        return False
    at, _ = place.trail[-1]
    statement = block_at(place.whole[2], place.trail[:-1])[at]
    return name in known_past({}, statement)


def dropped(place):
    """The result of "drop": the statement is left out, if its name stands nowhere from there on."""
    if place.item[0] == "if" or place.item[1] in names_behind(place):
        return None
    return place.with_instead(1, ())


def names_behind(place):
    """The names that are read behind a place in the text, and those of the outs."""
    names = list(place.whole[3])
    for item, _ in rows_of(place.whole)[place.number + 1:]:
        names.extend(names_read(item))
    return names


def swapped(place):
    """The result of "swap": the statement and the next one are exchanged."""
    pair = place.block[place.at:place.at + 2]
    if len(pair) < 2 or "if" in (pair[0][0], pair[1][0]) or pair[0][1] in names_read(pair[1]):
        return None
    return place.with_instead(2, (pair[1], pair[0]))


def hoisted(place):
    """The result of "hoist": the first statement of both arms stands ahead of the "if"."""
    if place.item[0] != "if":
        return None
    then, other = place.item[3:]
    if not are_twins(then[:1], other[:1]):
        return None
    return place.with_instead(1, (then[0], (*place.item[:3], then[1:], other[1:])))


def are_twins(one, other):
    """Whether two blocks of at most one statement are of equal ones, which give a name."""
    return one == other and one != () and one[0][0] != "if"


def sunk(place):
    """The result of "sink": the last statement of both arms stands behind the "if"."""
    if place.item[0] != "if":
        return None
    then, other = place.item[3:]
    if not are_twins(then[-1:], other[-1:]):
        return None
    # This is no program if a name on the right of the statement is not known behind the "if" without it.
    return place.with_instead(1, ((*place.item[:3], then[:-1], other[:-1]), then[-1]))


def merged(place):
    """The result of "merge": the statements of one of two equal arms stand in the place of the "if"."""
    if place.item[0] != "if" or place.item[3] != place.item[4]:
        return None
    return place.with_instead(1, place.item[3])


def widened(place, kind):
    """The result of "widen": the kind stands in the place of that of the statement, which lies within it."""
    if place.item[0] == "if" or not is_kind_within(place.item[2], kind):
        return None
    return place.with_instead(1, ((*place.item[:2], kind, *place.item[3:]),))


MAKERS = {"drop": dropped, "hoist": hoisted, "merge": merged, "share": shared, "sink": sunk, "swap": swapped}


def is_pass(thing):
    """Whether any value is a pass."""
    if not isinstance(thing, tuple) or len(thing) not in (2, 3) or not is_integer(thing[1]):
        return False
    if len(thing) == 3:
        return thing[0] == "widen" and is_kind(thing[2])
    return thing[0] in PASS_WORDS


def found_pass(program, step):
    """The result of a pass; None if it does not go."""
    if not is_between(step[1], 0, count_items(program[2]) - 1):
        return None
    place = Place(program, step[1])
    if step[0] == "widen":
        found = widened(place, step[2])
    else:
        made = MAKERS[step[0]]
        found = made(place)
    return found if is_program(found) else None


def demand_pass(program, step):
    """Raises the error of the first of the two values that is not as it should be."""
    demand_program(program)
    if not is_pass(step):
        raise BadPass(step)


def does_go(program, step):
    """Whether a pass goes."""
    demand_pass(program, step)
    return found_pass(program, step) is not None


def passed(program, step):
    """The result of a pass; raises NoPlace if it does not go."""
    demand_pass(program, step)
    found = found_pass(program, step)
    if found is None:
        raise NoPlace(step[1])
    return found


def passes_at(program, number):
    """The ascending tuple of the passes other than "widen" that go at a number."""
    demand_program(program)
    if not is_between(number, 0, count_items(program[2]) - 1):
        raise BadNumber(number)
    steps = [(word, number) for word in PASS_WORDS]
    return tuple([step for step in steps if found_pass(program, step) is not None])


def tidied(program):
    """The program behind "merge", "share" and "drop", done as often as one of them goes."""
    demand_program(program)
    found = program
    tidier = first_tidied(found)
    while tidier is not None:
        found = tidier
        tidier = first_tidied(found)
    return found


def first_tidied(program):
    """The result of the first pass that tidies a program, by its word, then by its number; None if none goes."""
    for word in TIDY_WORDS:
        for number in range(count_items(program[2])):
            found = found_pass(program, (word, number))
            if found is not None:
                return found
    return None
