"""[0.2]: parameters by position and by name, arguments that nobody changes, and the same answer each time."""

import copy
import inspect
import random
import sys
import unittest

import support
from support import ANY_VALUES, Maker, question
from tripmeans import (bench, blame, brackets, free, kinds, passes, programs, refining, rounds, rules, runs, single,
                       texts, walls, ways)
from tripmeans.errors import (BadBound, BadFacts, BadForms, BadGiven, BadNumber, BadProgram, BadText, TripError,
                              Unlike)
from words import changed_program

PARAMETERS = {
    walls: {
        "are_borders": ["width", "thing"], "is_border": ["width", "thing"],
        "judge_follows": ["width", "walls", "stricts", "wall"],
        "follows_holds": ["width", "walls", "stricts", "wall", "thing"],
        "does_follow": ["width", "walls", "stricts", "wall"], "judge_empty": ["width", "walls", "stricts"],
        "empty_holds": ["width", "walls", "stricts", "thing"], "is_roomy": ["width", "walls"],
        "plain_borders": ["width", "walls"],
    },
    programs: {
        "is_kind": ["thing"], "is_name": ["thing"], "is_program": ["thing"], "is_kind_within": ["one", "other"],
        "made_program": ["ins", "facts", "body", "outs"], "is_straight": ["program"], "statement_count": ["program"],
        "statement_at": ["program", "number"], "known_at": ["program", "number"], "known_behind": ["program"],
    },
    texts: {"program_text": ["program"], "read_program": ["text"]},
    runs: {"run": ["program", "bound", "given"], "trace": ["program", "bound", "given"]},
    ways: {
        "ways_of": ["program"], "way_taken": ["program", "bound", "given"], "room_borders": ["program", "number"],
        "bare_borders": ["program", "number"],
    },
    single: {
        "is_single": ["program"], "forms_of": ["program"], "plain_room": ["program"],
        "judge_never_more": ["one", "other"], "never_more_holds": ["one", "other", "thing"],
        "judge_mean": ["held", "item"], "mean_holds": ["held", "item", "thing"],
    },
    refining: {
        "checks_of": ["one", "other"], "does_refine": ["one", "other"], "judge_refines": ["one", "other"],
        "refines_holds": ["one", "other", "thing"], "judge_alike": ["one", "other"],
        "alike_holds": ["one", "other", "thing"],
    },
    kinds: {
        "least_kinds": ["program"], "fitted": ["program"], "judge_kind": ["program", "number", "kind"],
        "kind_holds": ["program", "number", "kind", "thing"], "judge_never": ["program"],
        "never_holds": ["program", "thing"], "needless_registers": ["program"],
    },
    free: {
        "need_borders": ["wanted", "k"], "free_forms": ["wanted", "k"], "judge_free": ["wanted", "k"],
        "free_holds": ["wanted", "k", "thing"],
    },
    brackets: {
        "is_tree": ["n", "thing"], "lots_of": ["n", "tree"], "plain_tree": ["n", "tree"], "all_trees": ["n"],
        "judge_trees": ["items", "one", "other"], "trees_hold": ["items", "one", "other", "thing"],
        "tree_program": ["items", "tree"], "best_trees": ["items"],
    },
    passes: {
        "does_go": ["program", "step"], "passed": ["program", "step"], "passes_at": ["program", "number"],
        "tidied": ["program"],
    },
    rules: {
        "is_rule": ["thing"], "judge_rule": ["rule"], "rule_holds": ["rule", "thing"],
        "match_at": ["program", "rule", "number"], "does_fit": ["program", "rule", "number"],
        "done_at": ["program", "rule", "number"], "places_of": ["program", "rule"],
    },
    rounds: {
        "are_rounds": ["thing"], "judge_kept": ["rounds", "bounds"], "kept_holds": ["rounds", "bounds", "thing"],
        "judge_coupled": ["one", "other", "couplings"], "coupled_holds": ["one", "other", "couplings", "thing"],
        "unrolled": ["rounds", "r"],
    },
    blame: {
        "can_trip": ["program", "number"], "can_be_reached": ["program", "number"], "judge_trip": ["program", "number"],
        "trip_holds": ["program", "number", "thing"], "tripping": ["program"], "never_trips": ["program"],
        "parts_at": ["one", "other", "bound", "given"], "first_parting": ["one", "other", "most"],
        "bounds_of_parting": ["one", "other", "most"],
    },
}
# Names of all functions that tell whether something is so.
TELLING = ("are_borders", "is_border", "follows_holds", "does_follow", "empty_holds", "is_roomy", "is_kind", "is_name",
           "is_program", "is_kind_within", "is_straight", "is_single", "never_more_holds", "mean_holds", "does_refine",
           "refines_holds", "alike_holds", "kind_holds", "never_holds", "free_holds", "is_tree", "trees_hold", "does_go",
           "is_rule", "rule_holds", "does_fit", "are_rounds", "kept_holds", "coupled_holds", "can_trip", "can_be_reached",
           "trip_holds", "never_trips", "parts_at")
# Names of those that return None for nothing found.
WITH_NONE = ("match_at", "first_parting")
# Names of those whose results hold bools, and not only integers, strings and tuples.
WITH_BOOLS = ("ways_of",)
# Names of those that tell of any one value, and raise nothing.
NEVER_RAISING = ("is_kind", "is_name", "is_program", "is_rule", "are_rounds")
SUM = ((("a", ("both", 1)), ("b", ("up", 2))), (), (("plus", "c", ("both", 2), "a", "b"),), ("c",))


def answer(call, *given, **named):
    """What a call returns, or the sort of its error and what it carries."""
    try:
        return ("returned", call(*given, **named))
    except TripError as e:
        return (type(e), vars(e))


def calls():
    """Functions with arguments, right and wrong ones."""
    rand = random.Random(41)
    for k in range(40):
        width, some, stricts, wall = question(rand)
        program = Maker(k).program()
        number = rand.randint(-1, 8)
        yield walls.judge_follows, (width, some, stricts, wall)
        yield walls.does_follow, (width, some, stricts, wall)
        yield walls.follows_holds, (width, some, stricts, wall, walls.judge_follows(width, some, stricts, wall))
        yield walls.judge_empty, (width, some, stricts)
        yield walls.empty_holds, (width, some, stricts, walls.judge_empty(width, some, stricts))
        yield walls.is_roomy, (width, some)
        yield walls.plain_borders, (width, some)
        yield programs.made_program, program
        yield programs.statement_at, (program, number)
        yield programs.known_at, (program, number)
        yield programs.known_behind, (program,)
        yield programs.statement_count, (program,)
        yield programs.is_straight, (program,)
        yield programs.is_kind_within, (program[0][0][1], ("both", k))
        yield texts.program_text, (program,)
        yield texts.read_program, (texts.program_text(program)[:rand.randint(5, 400)],)
        if k % 4 == 0:
            small = Maker(k, wide=3, far=2, ins=3, most=5).program()
            yield from calls_of_programs(rand, small, changed_program(rand, small))
            yield from calls_of_one(rand, small)
            yield from calls_of_sums(rand)
            yield from calls_of_rules(rand, small, changed_program(rand, small))
    for module, functions in PARAMETERS.items():
        for name, parameters in functions.items():
            for thing in ANY_VALUES:
                yield getattr(module, name), (thing,) * len(parameters)
                yield getattr(module, name), (2, (), (), (1, 2), thing)[-len(parameters):]
                for given in ((SUM, SUM, thing), (SUM, thing, thing), (SUM, 2, (1, thing))):
                    yield getattr(module, name), (*given, thing, thing)[:len(parameters)]


def calls_of_programs(rand, one, other):
    """Functions with two programs that are nearly the same."""
    bound = rand.randint(1, 3)
    given = tuple(rand.randint(0, bound) for _ in one[0])
    held = (((1, 1), rand.randint(1, 3)), ((1, rand.randint(-3, 3)), 1))
    item = ((rand.randint(-3, 3), 1), 2)
    yield runs.run, (one, bound, given)
    yield runs.trace, (one, bound, given)
    yield ways.ways_of, (one,)
    yield ways.way_taken, (one, bound, given)
    yield ways.room_borders, (one, rand.randint(0, 2))
    yield ways.bare_borders, (one, rand.randint(0, 2))
    for program in (one, (*one[:2], (), one[0][0][:1])):
        yield single.is_single, (program,)
        yield single.forms_of, (program,)
        yield single.plain_room, (program,)
    for call, papers, pair in ((single.judge_never_more, single.never_more_holds, (one, other)),
                               (refining.judge_refines, refining.refines_holds, (one, other)),
                               (refining.judge_alike, refining.alike_holds, (one, other)),
                               (single.judge_mean, single.mean_holds, (held, item))):
        yield call, pair
        yield papers, (*pair, answer(call, *pair)[1])
    yield refining.checks_of, (one, other)
    yield refining.does_refine, (one, other)


def calls_of_one(rand, program):
    """Functions with one program."""
    number, kind = rand.randint(0, 2), (rand.choice(("both", "up")), rand.randint(1, 4))
    for call in (kinds.least_kinds, kinds.fitted, kinds.judge_never, kinds.needless_registers, passes.tidied):
        yield call, (program,)
    yield kinds.judge_kind, (program, number, kind)
    yield kinds.kind_holds, (program, number, kind, answer(kinds.judge_kind, program, number, kind)[1])
    yield kinds.never_holds, (program, kinds.judge_never(program))
    yield passes.passes_at, (program, number)
    for step in ((rand.choice(("share", "drop", "swap", "merge")), number), ("widen", number, kind)):
        yield passes.does_go, (program, step)
        yield passes.passed, (program, step)


def calls_of_rules(rand, one, other):
    """Functions about rules, rounds and partings, with two programs that are nearly the same."""
    number, bound = rand.randint(0, 2), rand.randint(1, 2)
    given = tuple(rand.randint(0, bound) for _ in one[0])
    rule = ((SUM[0], (), SUM[2], ("c",)), (SUM[0], (), (("plus", "c", ("both", 3), "b", "a"),), ("c",)))
    for some in (rule, (one, other)):
        yield rules.is_rule, (some,)
        yield rules.judge_rule, (some,)
        yield rules.rule_holds, (some, answer(rules.judge_rule, some)[1])
        yield rules.places_of, (SUM, some)
        for call in (rules.match_at, rules.does_fit, rules.done_at):
            yield call, (SUM, some, rand.randint(0, 1))
    near, far = ((*one[:3], one[3][:1]), 1), ((*other[:3], other[3][:1]), 1)
    walls_of_two, walls_of_three = ((1, rand.randint(0, 1)),), ((1, -1, 0), (-1, 1, 0))
    yield rounds.are_rounds, (near,)
    yield rounds.judge_kept, (near, walls_of_two)
    yield rounds.kept_holds, (near, walls_of_two, answer(rounds.judge_kept, near, walls_of_two)[1])
    yield rounds.judge_coupled, (near, far, walls_of_three)
    yield rounds.coupled_holds, (near, far, walls_of_three, answer(rounds.judge_coupled, near, far, walls_of_three)[1])
    yield rounds.unrolled, (near, rand.randint(0, 3))
    for call in (blame.can_trip, blame.can_be_reached, blame.judge_trip):
        yield call, (one, number)
    yield blame.trip_holds, (one, number, answer(blame.judge_trip, one, number)[1])
    yield blame.tripping, (one,)
    yield blame.never_trips, (one,)
    yield blame.parts_at, (one, other, bound, given)
    yield blame.first_parting, (one, other, bound)
    yield blame.bounds_of_parting, (one, other, bound)


def calls_of_sums(rand):
    """Functions about wanted sums and trees."""
    n = rand.randint(2, 4)
    ins = tuple((name, (rand.choice(("both", "up")), 1)) for name in "abcd"[:n])
    wanted = (ins, (), ((tuple(rand.randint(-1, 2) for _ in ins), ("both", rand.randint(1, 2))),))
    for call in (free.need_borders, free.free_forms, free.judge_free):
        yield call, (wanted, 1)
    yield free.free_holds, (wanted, 1, answer(free.judge_free, wanted, 1)[1])
    one, other = rand.choice(brackets.all_trees(n)), rand.choice(brackets.all_trees(n))
    items = tuple(rand.choice((-1, 0, 1)) for _ in ins)
    for call in (brackets.is_tree, brackets.lots_of, brackets.plain_tree):
        yield call, (n, one[::-1])
    yield brackets.all_trees, (n,)
    yield brackets.judge_trees, (items, one, other)
    yield brackets.trees_hold, (items, one, other, brackets.judge_trees(items, one, other))
    yield brackets.tree_program, (items, one)
    yield brackets.best_trees, (items,)


class Conventions(unittest.TestCase):
    def test_parameters_have_the_names_of_the_interface(self):
        for module, functions in PARAMETERS.items():
            for name, parameters in functions.items():
                call = getattr(module, name)
                self.assertEqual(list(inspect.signature(call).parameters), parameters, name)
                self.assertEqual(call.__module__, module.__name__)

    def test_by_position_and_by_name(self):
        for call, given in calls():
            named = dict(zip(PARAMETERS[sys.modules[call.__module__]][call.__name__], given))
            self.assertEqual(answer(call, *given), answer(call, **named), call.__name__)

    def test_every_function_is_called_rightly_and_wrongly(self):
        seen = {}
        for call, given in calls():
            seen.setdefault(call, set()).add(answer(call, *given)[0] == "returned")
        for module, functions in PARAMETERS.items():
            for name in functions:
                raises = name not in NEVER_RAISING
                self.assertEqual(seen[getattr(module, name)], {True, False} if raises else {True}, name)

    def test_the_same_call_again(self):
        for call, given in calls():
            self.assertEqual(answer(call, *given), answer(call, *copy.deepcopy(given)), call.__name__)

    def test_no_argument_is_changed(self):
        for call, given in calls():
            before = repr(given)
            answer(call, *given)
            self.assertEqual(repr(given), before)

    def test_what_tells_whether_something_is_so(self):
        for call, given in calls():
            word, found = answer(call, *given)
            if call.__name__ in TELLING and word == "returned":
                self.assertIn(repr(found), ("True", "False"))

    def test_results_are_of_integers_strings_and_tuples(self):
        for call, given in calls():
            word, found = answer(call, *given)
            if word == "returned" and call.__name__ not in TELLING:
                plain = is_plain(found, call.__name__ in WITH_BOOLS)
                self.assertTrue(plain or found is None and call.__name__ in WITH_NONE, (call.__name__, found))

    def test_things_of_any_kind_raise_nothing(self):
        for thing in ANY_VALUES:
            for call in (programs.is_kind, programs.is_name, programs.is_program, rules.is_rule, rounds.are_rounds):
                self.assertIsInstance(call(thing), bool)
            for width in range(2, 9):
                self.assertIsInstance(walls.is_border(width, thing), bool)
                self.assertIsInstance(walls.are_borders(width, thing), bool)
                self.assertIsInstance(walls.follows_holds(width, (), (), (0,) * width, thing), bool)
                self.assertIsInstance(walls.empty_holds(width, (), (), thing), bool)
            for call, pair in ((single.never_more_holds, (SUM, SUM)), (single.mean_holds, ((((1,), 1),), ((1,), 1))),
                               (refining.refines_holds, (SUM, SUM)), (refining.alike_holds, (SUM, SUM))):
                self.assertIsInstance(call(*pair, thing), bool)

    def test_again_with_other_calls_between(self):
        made = list(calls())[::7]
        random.Random(42).shuffle(made)
        found = [answer(call, *given) for call, given in made]
        for (call, given), before in reversed(list(zip(made, found))):
            self.assertEqual(answer(call, *given), before, call.__name__)

    def test_benches_are_not_changed(self):
        before = str(support.BENCH), support.BENCH.deals()
        for call, given in calls():
            answer(call, *given)
        self.assertEqual((str(support.BENCH), support.BENCH.deals()), before)

    def test_methods_of_benches_have_the_names_of_the_interface(self):
        for name, parameters in {"copy": [], "labels": [], "program": ["label"], "promises": [], "deals": [],
                                 "deal": ["edits"], "edit": ["change"], "undo": [], "redo": [],
                                 "judged": ["promise"]}.items():
            self.assertEqual(list(inspect.signature(getattr(bench.Bench, name)).parameters), ["self", *parameters])
        self.assertEqual(list(inspect.signature(bench.Bench.read).parameters), ["text"])
        self.assertEqual(list(inspect.signature(bench.Bench).parameters), [])
        self.assertEqual(list(inspect.signature(bench.fault_holds).parameters), ["bench", "promise", "thing"])

    def test_errors_carry_the_very_value(self):
        thing = [1, {"a": [2]}]
        for error, call, given in ((BadNumber, walls.is_roomy, (thing, ())),
                                   (BadFacts, programs.made_program, ((("a", ("up", 1)),), thing, (), ("a",))),
                                   (BadProgram, ways.ways_of, (thing,)), (BadBound, runs.run, (SUM, thing, ())),
                                   (BadGiven, ways.way_taken, (SUM, 1, thing)),
                                   (BadNumber, ways.room_borders, (SUM, thing)),
                                   (BadProgram, refining.judge_alike, (SUM, thing)),
                                   (BadForms, single.judge_mean, (thing, ())),
                                   (BadForms, single.judge_mean, ((((1,), 1),), thing))):
            with self.assertRaises(error) as found:
                call(*given)
            self.assertIs(found.exception.thing, thing)
        with self.assertRaises(BadText) as found:
            texts.read_program(thing)
        self.assertEqual(found.exception.at, 0)
        other = (*SUM[:3], ("c", "c"))
        with self.assertRaises(Unlike) as found:
            refining.checks_of(SUM, other)
        self.assertIs(found.exception.thing, other)


def is_plain(thing, bools=False):
    if type(thing) is tuple:
        return all(is_plain(item, bools) for item in thing)
    return type(thing) in (int, str) or bools and type(thing) is bool


if __name__ == "__main__":
    unittest.main()
