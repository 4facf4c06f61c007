"""Labels and promises: what is promised of programs by their labels, and faults that show it is not so (part 12).

Programs are told by dicts: for each label the program that it stands for.
"""

from tripmeans.blame import do_part
from tripmeans.integers import is_integer
from tripmeans.kinds import does_trip, judge_never
from tripmeans.places import numbered
from tripmeans.programs import LETTERS
from tripmeans.refining import does_part, judge_alike, judge_refines

MOST_LETTERS = 8
PAIR_PROMISES = ("refines", "alike")
ONE_PROMISES = ("never trips", "straight")


def is_label(thing):
    """Whether any value is a label."""
    if not isinstance(thing, str) or not 1 <= len(thing) <= MOST_LETTERS:
        return False
    return all([letter in LETTERS for letter in thing])


def is_label_of(programs, thing):
    """Whether any value is a label that stands for a program."""
    return isinstance(thing, str) and thing in programs


def is_promise(programs, thing):
    """Whether any value is a promise whose labels stand for programs."""
    if not isinstance(thing, tuple) or not all([is_label_of(programs, label) for label in thing[1:]]):
        return False
    return len(thing) == 3 and thing[0] in PAIR_PROMISES or len(thing) == 2 and thing[0] in ONE_PROMISES


def judged_promise(programs, promise):
    """("kept",) for a promise, or a fault that shows that it is not kept."""
    one = programs[promise[1]]
    if promise[0] == "never trips":
        found = judge_never(one)
        return found if found[0] == "trips" else ("kept",)
    if promise[0] == "straight":
        number = first_if(one)
        return ("kept",) if number is None else ("if", number)
    other = programs[promise[2]]
    if are_unlike(one, other):
        return ("unlike",)
    if promise[0] == "refines":
        found = judge_refines(other, one)
        return found if found[0] == "parts" else ("kept",)
    found = judge_alike(one, other)
    return ("apart", found[2], found[3]) if found[0] == "parts" else ("kept",)


def first_if(program):
    """The number of the first "if" of a program; None if it has none."""
    return min([number for number, item in numbered(program[2], 0) if item[0] == "if"], default=None)


def are_unlike(one, other):
    """Whether two programs have other ins or facts, or other numbers of outs."""
    return one[:2] != other[:2] or len(one[3]) != len(other[3])


def is_fault(programs, promise, thing):
    """Whether any value is a right fault of a promise."""
    if not isinstance(thing, tuple):
        return False
    one = programs[promise[1]]
    if promise[0] == "straight":
        return len(thing) == 2 and thing[0] == "if" and is_integer(thing[1]) and thing[1] == first_if(one)
    if promise[0] == "never trips":
        return len(thing) == 3 and thing[0] == "trips" and does_trip(one, thing[1], thing[2])
    other = programs[promise[2]]
    if are_unlike(one, other):
        return thing == ("unlike",)
    if promise[0] == "refines":
        return len(thing) == 3 and thing[0] == "parts" and does_part(other, one, thing[1], thing[2])
    return len(thing) == 3 and thing[0] == "apart" and do_part(one, other, thing[1], thing[2])
