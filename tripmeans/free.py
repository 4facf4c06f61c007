"""Free of needless trips: whether a wanted sum can be reckoned with registers that trip only if it does (part 7)."""

from itertools import permutations

from tripmeans.errors import BadNumber, BadWanted, NotRoomy
from tripmeans.integers import are_integers, is_between, value_at
from tripmeans.names import Namer
from tripmeans.programs import WIDEST, are_facts, are_ins, is_kind, is_program
from tripmeans.single import entries_of
from tripmeans.walls import found_follows, is_roomy
from tripmeans.ways import input_forms, kind_borders, less, start_borders

MOST_SUMS = 3


def is_wanted(thing):
    """Whether any value is a wanted."""
    if not isinstance(thing, tuple) or len(thing) != 3:
        return False
    ins, facts, outs = thing
    if not are_ins(ins) or not are_facts(ins, facts):
        return False
    if not isinstance(outs, tuple) or not 1 <= len(outs) <= MOST_SUMS:
        return False
    return all([is_kind_of_form(len(ins), out) for out in outs])


def is_kind_of_form(n, thing):
    """Whether any value is a pair of a form of n inputs and a kind."""
    return isinstance(thing, tuple) and len(thing) == 2 and are_integers(thing[0], n) and is_kind(thing[1])


def need_borders(wanted, k):
    """The need walls of a wanted; raises the error of the first thing that is not so."""
    if not is_wanted(wanted):
        raise BadWanted(wanted)
    if not is_between(k, 1, WIDEST):
        raise BadNumber(k)
    walls = list(start_borders(wanted))
    for form, kind in wanted[2]:
        walls.extend(kind_borders(form, kind))
    if not is_roomy(len(wanted[0]) + 1, tuple(walls)):
        raise NotRoomy()
    return tuple(walls)


class Fitter:
    """Tells which forms fit, with what it found before: answers, and points at which some form does not fit."""

    def __init__(self, walls, k):
        self.walls = walls
        self.k = k
        self.answers = {}
        self.points = []

    def is_fitting(self, form):
        """Whether both walls of a form for registers ("both", k) follow from the need walls."""
        if form not in self.answers:
            self.answers[form] = self.is_within(form)
            # A form and its opposite have the same two walls.
            self.answers[opposite(form)] = self.answers[form]
        return self.answers[form]

    def is_within(self, form):
        """The same, found out anew; a point that shows that the form does not fit is kept."""
        for point in self.points:
            if abs(value_at(form, point)) > self.k * point[-1]:
                return False
        for wall in kind_borders(form, ("both", self.k)):
            found = found_follows(len(wall), self.walls, (), wall)
            if found[0] == "point":
                self.points.append(found[1])
                return False
        return True


def opposite(form):
    """The form with the other sign."""
    return tuple([-x for x in form])


def made_of(one, other):
    """What two forms make: for each sum and difference its form, and the word and the two forms that give it."""
    return [(less(one, opposite(other)), ("plus", one, other)), (less(one, other), ("minus", one, other)),
            (less(other, one), ("minus", other, one))]


def first_forms(wanted):
    """The forms of the inputs, in their order."""
    return list(input_forms(wanted).values())


def free_forms(wanted, k):
    """The tuple of all free forms."""
    return found_forms(wanted, Fitter(need_borders(wanted, k), k))


def found_forms(wanted, fitter):
    """The ascending tuple of all free forms of a wanted, by what fits."""
    found = first_forms(wanted)
    known = {form: True for form in found}
    at = 0
    while at < len(found):
        settled = found[:at + 1]
        for other in settled:
            for form, _ in made_of(settled[at], other):
                if form not in known and fitter.is_fitting(form):
                    known[form] = True
                    found.append(form)
        at += 1
    return tuple(sorted(found))


def is_made(known, form):
    """Whether a form is the sum or the difference of two of the forms that are the keys of a dict."""
    return way_to_make(known, form) is not None


def judge_free(wanted, k):
    """A paper that a wanted has a free program with registers ("both", k), or that it has none."""
    forms = free_forms(wanted, k)
    known = {form: True for form in forms}
    if not all([is_made(known, form) for form, _ in wanted[2]]):
        return ("closed", forms)
    return ("program", free_program(wanted, k, steps_for(wanted, forms)))


def steps_for(wanted, forms):
    """How the forms are made that are to be reckoned ahead of the outs of a wanted: as few as are found.

    The result is a dict with the inputs' forms first, then others, each behind those that it is made of.
    """
    found = None
    # What was reckoned for one out costs nothing for the next one: so their order counts.
    for order in permutations([form for form, _ in wanted[2]]):
        steps = {form: None for form in first_forms(wanted)}
        for form in order:
            steps = steps_to(steps, forms, form)
        if found is None or len(steps) < len(found):
            found = steps
    return found


def steps_to(steps, forms, out):
    """The steps with a few more, such that the form of an out is the sum or the difference of two of them."""
    allowed = {form: True for form in forms}
    # For each form that is settled: the forms that are to be reckoned for it, beside the steps.
    needs = {form: () for form in steps}
    ways = {form: steps[form] for form in steps}
    waiting = {}
    for form in steps:
        put_made(waiting, needs, allowed, form)
    best = least_needs(needs, out)
    while waiting and (best is None or min([len(need) for need, _ in list(waiting.values())]) < len(best)):
        form = min(waiting, key=lambda made: (len(waiting[made][0]), made))
        needs[form], ways[form] = waiting.pop(form)
        put_made(waiting, needs, allowed, form)
        best = least_needs(needs, out)
    # Forms are settled behind those that they are made of.
    return {form: ways[form] for form in ways if form in steps or form in best}


def put_made(waiting, needs, allowed, form):
    """Puts among those that wait what a settled form makes with settled forms, where it then needs less."""
    for other in needs:
        for made, how in made_of(form, other):
            if made in allowed and made not in needs:
                need = joined_needs(needs, form, other) + (made,)
                if made not in waiting or len(need) < len(waiting[made][0]):
                    waiting[made] = (need, how)


def joined_needs(needs, one, other):
    """The forms that one of two settled forms needs, or both."""
    return tuple(sorted(set(needs[one]) | set(needs[other])))


def least_needs(needs, out):
    """The least forms that are needed to make an out of two settled forms; None if no two make it."""
    found = None
    for one in needs:
        for other in (less(out, one), less(one, out)):
            if other in needs:
                need = joined_needs(needs, one, other)
                if found is None or len(need) < len(found):
                    found = need
    return found


def free_program(wanted, k, steps):
    """The program for a wanted that reckons these steps and then the outs, all of sums and differences."""
    ins, facts, outs = wanted
    namer = Namer("", [name for name, _ in ins])
    names = dict(zip(first_forms(wanted), [name for name, _ in ins]))
    body = []
    for form, how in steps.items():
        if how is not None:
            word, one, other = how
            statement = (word, namer.new_name(), ("both", k), names[one], names[other])
            names[form] = statement[1]
            body.append(statement)
    last = []
    for form, kind in outs:
        word, one, other = way_to_make(steps, form)
        last.append((word, namer.new_name(), kind, names[one], names[other]))
    return (ins, facts, (*body, *last), tuple([item[1] for item in last]))


def way_to_make(known, form):
    """The word and two of the forms that are the keys of a dict that make a form; None if no two do."""
    for one in known:
        if less(form, one) in known:
            return ("plus", one, less(form, one))
        if less(one, form) in known:
            return ("minus", one, less(one, form))
    return None


def free_holds(wanted, k, thing):
    """Whether any value is a right paper that a wanted has a free program, or that it has none."""
    fitter = Fitter(need_borders(wanted, k), k)
    if not isinstance(thing, tuple) or len(thing) != 2:
        return False
    if thing[0] == "program":
        return is_free_program(wanted, fitter, thing[1])
    return thing[0] == "closed" and are_closed(wanted, fitter, thing[1])


def is_free_program(wanted, fitter, thing):
    """Whether any value is a free program for a wanted, as the papers ask for it."""
    ins, facts, outs = wanted
    if not is_program(thing) or thing[:2] != (ins, facts) or not are_sums(thing[2]):
        return False
    many = len(thing[2]) - len(outs)
    if many < 0 or not are_last(thing[2], many, thing[3]):
        return False
    entries = entries_of(thing)
    if tuple([(form, kind) for _, _, form, kind in entries[many:]]) != outs:
        return False
    return all([kind == ("both", fitter.k) and fitter.is_fitting(form) for _, _, form, kind in entries[:many]])


def are_sums(body):
    """Whether all statements of a body are "plus" and "minus"."""
    return all([item[0] in ("plus", "minus") for item in body])


def are_last(body, many, outs):
    """Whether the statements behind so many give the names of the outs, which stand on no right side."""
    if tuple([item[1] for item in body[many:]]) != outs:
        return False
    return not any([name in outs for item in body for name in item[3:]])


def are_closed(wanted, fitter, thing):
    """Whether any value is an ascending tuple of forms, closed as the papers ask for it, that do not make all outs."""
    if not isinstance(thing, tuple) or not all([are_integers(form, len(wanted[0])) for form in thing]):
        return False
    if not all([one < other for one, other in zip(thing, thing[1:])]):
        return False
    known = {form: True for form in thing}
    if not all([form in known for form in first_forms(wanted)]):
        return False
    if all([is_made(known, form) for form, _ in wanted[2]]):
        return False
    return is_closed(known, fitter)


def is_closed(known, fitter):
    """Whether all sums and differences of two of the forms that are the keys of a dict are among them if they fit."""
    forms = list(known)
    for at, one in enumerate(forms):
        for other in forms[:at + 1]:
            if any([form not in known and fitter.is_fitting(form) for form, _ in made_of(one, other)]):
                return False
    return True
