"""Edits of what a bench keeps, and the promises that must be kept behind them (part 12).

What a bench keeps is a pair (programs, promises): a dict with the program of each label, and a tuple. Neither
is ever changed: an edit makes new ones.
"""

from tripmeans.errors import BadName, BadPromise, InUse, NameTaken, NoName, NoPromise
from tripmeans.passes import passed
from tripmeans.programs import is_program
from tripmeans.promises import is_label, is_label_of, is_promise, judged_promise
from tripmeans.rules import done_at


def program_of(programs, label):
    """The program of a label; raises NoName for any value that is not a label of these programs."""
    if not is_label_of(programs, label):
        raise NoName(label)
    return programs[label]


def put_program(kept, change):
    """What is kept behind an edit "put"."""
    _, label, program = change
    if not is_label(label):
        raise BadName(label)
    return {**kept[0], label: program}, kept[1]


def drop_label(kept, change):
    """What is kept behind an edit "drop"."""
    programs, promises = kept
    label = change[1]
    program_of(programs, label)
    if any([label in promise[1:] for promise in promises]):
        raise InUse(label)
    return {other: programs[other] for other in programs if other != label}, promises


def copy_label(kept, change):
    """What is kept behind an edit "copy"."""
    programs, promises = kept
    _, label, other = change
    program = program_of(programs, label)
    if not is_label(other):
        raise BadName(other)
    if other in programs:
        raise NameTaken(other)
    return {**programs, other: program}, promises


def do_pass(kept, change):
    """What is kept behind an edit "pass"."""
    programs, promises = kept
    _, label, step = change
    return {**programs, label: passed(program_of(programs, label), step)}, promises


def do_rule(kept, change):
    """What is kept behind an edit "rule"."""
    programs, promises = kept
    _, label, rule, number = change
    return {**programs, label: done_at(program_of(programs, label), rule, number)}, promises


def give_promise(kept, change):
    """What is kept behind an edit "promise"."""
    programs, promises = kept
    promise = change[1]
    if not is_promise(programs, promise) or promise in promises:
        raise BadPromise(promise)
    return programs, (*promises, promise)


def release_promise(kept, change):
    """What is kept behind an edit "release"."""
    programs, promises = kept
    if change[1] not in promises:
        raise NoPromise(change[1])
    return programs, tuple([promise for promise in promises if promise != change[1]])


LENGTHS = {"put": 3, "drop": 2, "copy": 3, "pass": 3, "rule": 4, "promise": 2, "release": 2}
MAKERS = {
    "put": put_program, "drop": drop_label, "copy": copy_label, "pass": do_pass, "rule": do_rule,
    "promise": give_promise, "release": release_promise,
}


def is_edit(thing):
    """Whether any value is an edit."""
    if not isinstance(thing, tuple) or not thing or not isinstance(thing[0], str):
        return False
    if LENGTHS.get(thing[0], 0) != len(thing):
        return False
    return thing[0] != "put" or is_program(thing[2])


def edited(kept, change):
    """What is kept behind an edit; raises the error of the edit if it cannot be made."""
    made = MAKERS[change[0]]
    return made(kept, change)


def first_unkept(before, kept):
    """The first promise that is not kept, with its fault; None if all are. Those of before were kept then."""
    for promise in kept[1]:
        known = promise in before[1] and all([before[0][label] == kept[0][label] for label in promise[1:]])
        fault = ("kept",) if known else judged_promise(kept[0], promise)
        if fault != ("kept",):
            return promise, fault
    return None
