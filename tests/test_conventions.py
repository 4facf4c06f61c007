"""[0.2]: parameters by position and by name, arguments that nobody changes, and the same answer each time."""

import copy
import inspect
import random
import unittest

from support import ANY_VALUES, Maker, question
from tripmeans import programs, texts, walls
from tripmeans.errors import BadFacts, BadNumber, BadText, TripError

PARAMETERS = {
    walls: {
        "are_borders": ["width", "thing"], "is_border": ["width", "thing"],
        "judge_follows": ["width", "walls", "stricts", "wall"],
        "follows_holds": ["width", "walls", "stricts", "wall", "thing"],
        "does_follow": ["width", "walls", "stricts", "wall"], "judge_empty": ["width", "walls", "stricts"],
        "empty_holds": ["width", "walls", "stricts", "thing"], "is_roomy": ["width", "walls"],
        "plain_borders": ["width", "walls"],
    },
    programs: {
        "is_kind": ["thing"], "is_name": ["thing"], "is_program": ["thing"], "is_kind_within": ["one", "other"],
        "made_program": ["ins", "facts", "body", "outs"], "is_straight": ["program"], "statement_count": ["program"],
        "statement_at": ["program", "number"], "known_at": ["program", "number"], "known_behind": ["program"],
    },
    texts: {"program_text": ["program"], "read_program": ["text"]},
}
# Names of all functions that tell whether something is so.
TELLING = ("are_borders", "is_border", "follows_holds", "does_follow", "empty_holds", "is_roomy", "is_kind", "is_name",
           "is_program", "is_kind_within", "is_straight")


def answer(call, *given, **named):
    """What a call returns, or the sort of its error and what it carries."""
    try:
        return ("returned", call(*given, **named))
    except TripError as e:
        return (type(e), vars(e))


def calls():
    """Functions with arguments, right and wrong ones."""
    rand = random.Random(41)
    for k in range(40):
        width, some, stricts, wall = question(rand)
        program = Maker(k).program()
        number = rand.randint(-1, 8)
        yield walls.judge_follows, (width, some, stricts, wall)
        yield walls.does_follow, (width, some, stricts, wall)
        yield walls.follows_holds, (width, some, stricts, wall, walls.judge_follows(width, some, stricts, wall))
        yield walls.judge_empty, (width, some, stricts)
        yield walls.empty_holds, (width, some, stricts, walls.judge_empty(width, some, stricts))
        yield walls.is_roomy, (width, some)
        yield walls.plain_borders, (width, some)
        yield programs.made_program, program
        yield programs.statement_at, (program, number)
        yield programs.known_at, (program, number)
        yield programs.known_behind, (program,)
        yield programs.statement_count, (program,)
        yield programs.is_straight, (program,)
        yield programs.is_kind_within, (program[0][0][1], ("both", k))
        yield texts.program_text, (program,)
        yield texts.read_program, (texts.program_text(program)[:rand.randint(5, 400)],)
    for module, functions in PARAMETERS.items():
        for name, parameters in functions.items():
            for thing in ANY_VALUES:
                yield getattr(module, name), (thing,) * len(parameters)
                yield getattr(module, name), (2, (), (), (1, 2), thing)[-len(parameters):]


class Conventions(unittest.TestCase):
    def test_parameters_have_the_names_of_the_interface(self):
        for module, functions in PARAMETERS.items():
            for name, parameters in functions.items():
                call = getattr(module, name)
                self.assertEqual(list(inspect.signature(call).parameters), parameters, name)
                self.assertEqual(call.__module__, module.__name__)

    def test_by_position_and_by_name(self):
        for call, given in calls():
            named = dict(zip(PARAMETERS[inspect.getmodule(call)][call.__name__], given))
            self.assertEqual(answer(call, *given), answer(call, **named), call.__name__)

    def test_the_same_call_again(self):
        for call, given in calls():
            self.assertEqual(answer(call, *given), answer(call, *copy.deepcopy(given)), call.__name__)

    def test_no_argument_is_changed(self):
        for call, given in calls():
            before = repr(given)
            answer(call, *given)
            self.assertEqual(repr(given), before)

    def test_what_tells_whether_something_is_so(self):
        for call, given in calls():
            word, found = answer(call, *given)
            if call.__name__ in TELLING and word == "returned":
                self.assertIn(repr(found), ("True", "False"))

    def test_results_are_of_integers_strings_and_tuples(self):
        for call, given in calls():
            word, found = answer(call, *given)
            if word == "returned" and call.__name__ not in TELLING:
                self.assertTrue(is_plain(found), (call.__name__, found))

    def test_things_of_any_kind_raise_nothing(self):
        for thing in ANY_VALUES:
            for call in (programs.is_kind, programs.is_name, programs.is_program):
                self.assertIsInstance(call(thing), bool)
            for width in range(2, 9):
                self.assertIsInstance(walls.is_border(width, thing), bool)
                self.assertIsInstance(walls.are_borders(width, thing), bool)
                self.assertIsInstance(walls.follows_holds(width, (), (), (0,) * width, thing), bool)
                self.assertIsInstance(walls.empty_holds(width, (), (), thing), bool)

    def test_errors_carry_the_very_value(self):
        thing = [1, {"a": [2]}]
        for error, call, given in ((BadNumber, walls.is_roomy, (thing, ())),
                                   (BadFacts, programs.made_program, ((("a", ("up", 1)),), thing, (), ("a",)))):
            with self.assertRaises(error) as found:
                call(*given)
            self.assertIs(found.exception.thing, thing)
        with self.assertRaises(BadText) as found:
            texts.read_program(thing)
        self.assertEqual(found.exception.at, 0)


def is_plain(thing):
    if type(thing) is tuple:
        return all(is_plain(item) for item in thing)
    return type(thing) in (int, str)


if __name__ == "__main__":
    unittest.main()
