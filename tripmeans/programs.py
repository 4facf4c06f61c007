"""Kinds, names, programs, their statements and numbers, and what is known where (part 2).

Names that are known stand in dicts, each with its kind. A program is gone through in one way only, by
`scan_block`: to tell whether it is one, and what is known ahead of each of its statements.
"""

from tripmeans.errors import BadBody, BadFacts, BadIns, BadKind, BadNumber, BadOuts, BadProgram, BadStatement, TripError
from tripmeans.integers import is_between

LETTERS = "abcdefghijklmnopqrstuvwxyz"
KEPT_WORDS = ("in", "fact", "if", "else", "end", "out")
KIND_WORDS = ("both", "up")
PAIR_WORDS = ("plus", "minus", "least", "greatest")
WIDEST = 30
FARTHEST = 12
MOST_INS = 6
MOST_FACTS = 6
MOST_STATEMENTS = 24
MOST_OUTS = 4


def is_kind(thing):
    """Whether any value is a kind."""
    if not isinstance(thing, tuple) or len(thing) != 2:
        return False
    return thing[0] in KIND_WORDS and is_between(thing[1], 1, WIDEST)


def is_name(thing):
    """Whether any value is a name."""
    if not isinstance(thing, str) or not 1 <= len(thing) <= 8 or thing in KEPT_WORDS:
        return False
    return all([letter in LETTERS for letter in thing])


def is_kind_within(one, other):
    """Whether the range of a kind lies within that of another kind at every bound."""
    for thing in (one, other):
        if not is_kind(thing):
            raise BadKind(thing)
    return one[1] <= other[1] and (one[0] == "up" or other[0] == "both")


def are_ins(thing):
    """Whether any value is the inputs of a program."""
    if not isinstance(thing, tuple) or not 1 <= len(thing) <= MOST_INS:
        return False
    if not all([is_named_kind(item) for item in thing]):
        return False
    return len(dict(thing)) == len(thing)


def is_named_kind(thing):
    """Whether any value is a pair of a name and a kind."""
    return isinstance(thing, tuple) and len(thing) == 2 and is_name(thing[0]) and is_kind(thing[1])


def are_facts(ins, thing):
    """Whether any value is the facts of a program with these inputs."""
    if not isinstance(thing, tuple) or len(thing) > MOST_FACTS:
        return False
    names = dict(ins)
    if not all([is_fact(names, item) for item in thing]):
        return False
    return all([one < other for one, other in zip(thing, thing[1:])])


def is_fact(names, thing):
    """Whether any value is a pair of unlike names, both among the names of the inputs."""
    if not isinstance(thing, tuple) or len(thing) != 2 or thing[0] == thing[1]:
        return False
    return are_known(names, thing)


def are_known(known, things):
    """Whether all of some values are names that are known."""
    return all([isinstance(thing, str) and thing in known for thing in things])


def are_outs(known, thing):
    """Whether any value is the outs of a program, where these names are known behind the body."""
    return isinstance(thing, tuple) and 1 <= len(thing) <= MOST_OUTS and are_known(known, thing)


def is_if(thing):
    """Whether any value is an "if" with two tuples as its arms, whatever else stands in it."""
    if not isinstance(thing, tuple) or len(thing) != 5 or thing[0] != "if":
        return False
    return isinstance(thing[3], tuple) and isinstance(thing[4], tuple)


def is_giving(thing):
    """Whether any value is as a statement that gives a name is, whatever names stand on its right."""
    if not isinstance(thing, tuple) or len(thing) != 5 or not is_named_kind(thing[1:3]):
        return False
    if thing[0] == "times":
        return is_between(thing[3], -FARTHEST, FARTHEST)
    return thing[0] in PAIR_WORDS


def names_right(statement):
    """The names on the right of a statement that gives a name, in their order."""
    return statement[4:] if statement[0] == "times" else statement[3:]


def can_give(known, asked, thing):
    """Whether any value is a statement that may give its name where these names are known.

    The names that are asked for are those that the first arm gives, if the place is in a second arm.
    """
    if not is_giving(thing) or not are_known(known, names_right(thing)):
        return False
    name, kind = thing[1:3]
    return name not in known and asked.get(name, kind) == kind


def can_choose(known, thing):
    """Whether any value is an "if" whose two names are known, whatever stands in its arms."""
    return is_if(thing) and are_known(known, thing[1:3])


def given_in(block):
    """The names that the statements of a block give, not those of arms within, with their kinds."""
    return {item[1]: item[2] for item in block if item[0] != "if"}


def known_past(known, statement):
    """What is known behind a statement if this is known ahead of it."""
    past = dict(known)
    if statement[0] != "if":
        past[statement[1]] = statement[2]
        return past
    given = given_in(statement[4])
    for name, kind in given_in(statement[3]).items():
        if name in given:
            past[name] = kind
    return past


def count_items(body):
    """How many items stand in a body and in all arms within it, whether they are statements or not."""
    count = 0
    waiting = [body]
    while waiting:
        block = waiting.pop()
        count += len(block)
        for item in block:
            if is_if(item):
                waiting.extend(item[3:])
    return count


def scan_block(known, asked, block, rows):
    """What is known behind a block; raises BadStatement with the number of its first wrong item.

    For each item that is right, the pair of it and what is known ahead of it is put behind rows, which has
    those of all items ahead of the block: so their number is that of the next item.
    """
    here = known
    for item in block:
        choosing = can_choose(here, item)
        if not choosing and not can_give(here, asked, item):
            raise BadStatement(len(rows))
        rows.append((item, here))
        if choosing:
            scan_block(here, {}, item[3], rows)
            scan_block(here, given_in(item[3]), item[4], rows)
        here = known_past(here, item)
    return here


def made_program(ins, facts, body, outs):
    """The program of four values of any kind."""
    if not are_ins(ins):
        raise BadIns(ins)
    if not are_facts(ins, facts):
        raise BadFacts(facts)
    if not isinstance(body, tuple) or count_items(body) > MOST_STATEMENTS:
        raise BadBody(body)
    if not are_outs(scan_block(dict(ins), {}, body, []), outs):
        raise BadOuts(outs)
    return (ins, facts, body, outs)


def is_program(thing):
    """Whether any value is a program."""
    if not isinstance(thing, tuple) or len(thing) != 4:
        return False
    try:
        made_program(thing[0], thing[1], thing[2], thing[3])
    except TripError:
        return False
    return True


def demand_program(program):
    """Raises BadProgram for any value that is not a program."""
    if not is_program(program):
        raise BadProgram(program)


def rows_of(program):
    """The statements by their numbers, each with what is known ahead of it; raises BadProgram."""
    demand_program(program)
    rows = []
    scan_block(dict(program[0]), {}, program[2], rows)
    return rows


def row_at(program, number):
    """The statement with a number, and what is known ahead of it; raises BadProgram, then BadNumber."""
    rows = rows_of(program)
    if not is_between(number, 0, len(rows) - 1):
        raise BadNumber(number)
    return rows[number]


def is_straight(program):
    """Whether a program has no "if"."""
    demand_program(program)
    return all([item[0] != "if" for item in program[2]])


def statement_count(program):
    """How many statements a program has, those within arms counted."""
    return len(rows_of(program))


def statement_at(program, number):
    """The statement with a number, an "if" with its arms."""
    return row_at(program, number)[0]


def known_at(program, number):
    """The pairs of the names that are known ahead of a statement and their kinds."""
    return tuple(sorted(row_at(program, number)[1].items()))


def known_behind(program):
    """The pairs of the names that are known behind the body and their kinds."""
    demand_program(program)
    return tuple(sorted(scan_block(dict(program[0]), {}, program[2], []).items()))
