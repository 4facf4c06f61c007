"""[2.5]: runs, their bounds and given integers, where they trip and what they end with."""

import random
import unittest

from support import ANY_VALUES, Maker, caught
from tripmeans import runs as module
from tripmeans.errors import BadBound, BadGiven, BadProgram
from tripmeans.runs import run, trace
from words import all_given, walked

K, U = ("both", 1), ("up", 1)
WIDE = ("both", 30)
INS = (("a", K), ("b", K), ("c", U))
P = (INS, (), (("plus", "s", K, "a", "b"), ("minus", "r", K, "s", "c")), ("r",))
BOUNDS = (1, 2, 7, 10 ** 59, 10 ** 60 - 1)
# Programs of this shape reckon one value from two inputs of any size up to 30 B.
TWO = (("x", WIDE), ("y", WIDE))


def one_statement(word, kind, one, other):
    return (TWO, (), ((word, "v", kind, one, other),), ("v",))


class ByHand(unittest.TestCase):
    def test_the_documents_examples(self):
        self.assertEqual(run(P, 10, (7, 6, 9)), ("trips", 0, 13))
        self.assertEqual(run(P, 10, (7, 2, 9)), ("ends", (0,)))
        self.assertEqual(trace(P, 10, (7, 2, 9)), ((0, 9), (1, 0)))
        self.assertEqual(caught(BadGiven, run, P, 10, (7, 2, -1)), (7, 2, -1))

    def test_each_word(self):
        for word, one, other, value in (("plus", "x", "y", 2), ("plus", "y", "x", 2), ("minus", "x", "y", 12),
                                        ("minus", "y", "x", -12), ("least", "x", "y", -5), ("least", "y", "x", -5),
                                        ("greatest", "x", "y", 7), ("greatest", "y", "x", 7), ("times", 12, "x", 84),
                                        ("times", -12, "y", 60), ("times", 0, "x", 0), ("plus", "x", "x", 14),
                                        ("minus", "y", "y", 0), ("least", "y", "y", -5), ("greatest", "x", "x", 7)):
            program = one_statement(word, WIDE, one, other)
            self.assertEqual(run(program, 10, (7, -5)), ("ends", (value,)), (word, one, other))
            self.assertEqual(trace(program, 10, (7, -5)), ((0, value),))

    def test_the_ends_of_ranges_of_values(self):
        for bound in BOUNDS:
            for k in (1, 2, 29):
                for word in ("both", "up"):
                    low = -k * bound if word == "both" else 0
                    for value in (low - 1, low, low + 1, 0, k * bound - 1, k * bound, k * bound + 1):
                        fits = low <= value <= k * bound
                        for program in (one_statement("plus", (word, k), "x", "y"),
                                        one_statement("times", (word, k), 1, "x")):
                            due = ("ends", (value,)) if fits else ("trips", 0, value)
                            self.assertEqual(run(program, bound, (value, 0)), due)
                            self.assertEqual(trace(program, bound, (value, 0)), ((0, value),))

    def test_the_ends_of_ranges_of_given_integers(self):
        for bound in BOUNDS:
            for k in (1, 2, 30):
                for word in ("both", "up"):
                    program = ((("a", K), ("x", (word, k))), (), (), ("x", "a"))
                    low = -k * bound if word == "both" else 0
                    for value in (low, 0, 1, k * bound):
                        self.assertEqual(run(program, bound, (0, value)), ("ends", (value, 0)))
                        self.assertEqual(trace(program, bound, (0, value)), ())
                    for value in (low - 1, k * bound + 1):
                        for call in (run, trace):
                            self.assertEqual(caught(BadGiven, call, program, bound, (0, value)), (0, value))

    def test_facts(self):
        program = (INS, (("a", "b"), ("c", "b")), (), ("a",))
        for given in ((0, 0, 0), (3, 3, 3), (-3, 3, 0), (2, 3, 3), (-10, 10, 10)):
            self.assertEqual(run(program, 10, given), ("ends", given[:1]))
        for given in ((1, 0, 0), (0, 3, 4), (-1, -1, 0), (10, 9, 9), (4, 3, 4)):
            self.assertEqual(caught(BadGiven, run, program, 10, given), given)
            self.assertEqual(caught(BadGiven, trace, program, 10, given), given)
        both = (INS, (("a", "b"), ("b", "a")), (), ("b",))
        self.assertEqual(run(both, 10, (-4, -4, 0)), ("ends", (-4,)))
        self.assertEqual(caught(BadGiven, run, both, 10, (-4, -3, 0)), (-4, -3, 0))
        self.assertEqual(caught(BadGiven, run, both, 10, (-3, -4, 0)), (-3, -4, 0))

    def test_behind_a_trip_nothing_more_is_reckoned(self):
        body = (("plus", "d", ("both", 2), "a", "b"), ("times", "e", U, -1, "d"), ("times", "f", K, 12, "e"))
        program = (INS, (), body, ("f", "e"))
        self.assertEqual(trace(program, 5, (3, 3, 0)), ((0, 6), (1, -6)))
        self.assertEqual(run(program, 5, (3, 3, 0)), ("trips", 1, -6))
        self.assertEqual(trace(program, 5, (-1, 0, 0)), ((0, -1), (1, 1), (2, 12)))
        self.assertEqual(run(program, 5, (-1, 0, 0)), ("trips", 2, 12))
        self.assertEqual(run(program, 12, (-1, 0, 0)), ("ends", (12, 1)))

    def test_a_value_without_effect_trips_too(self):
        program = (INS, (), (("plus", "d", K, "a", "b"),), ("a", "a"))
        self.assertEqual(run(program, 4, (2, 2, 0)), ("ends", (2, 2)))
        self.assertEqual(run(program, 4, (2, 3, 0)), ("trips", 0, 5))

    def test_empty_bodies_and_outs_that_come_twice(self):
        program = (INS, (), (), ("c", "a", "c", "b"))
        self.assertEqual(run(program, 4, (2, 3, 1)), ("ends", (1, 2, 1, 3)))
        self.assertEqual(trace(program, 4, (2, 3, 1)), ())


class Choices(unittest.TestCase):
    INNER = ("if", "b", "c", (("plus", "e", ("both", 3), "d", "c"),), (("minus", "e", ("both", 3), "d", "c"),
                                                                     ("times", "f", ("both", 4), 2, "c")))
    BODY = (
        ("if", "a", "b", (("times", "d", K, 1, "a"), INNER, ("least", "g", ("both", 2), "d", "b")),
         (("times", "d", K, -1, "b"), ("if", "c", "a", (), (("times", "h", ("both", 5), 5, "c"),)),
          ("greatest", "g", ("both", 2), "d", "c"))),
        ("plus", "f", ("both", 6), "g", "d"),
        ("times", "h", ("both", 12), 2, "f"),
    )
    ASKED = (INS, (), BODY, ("h", "d", "h"))

    def test_both_arms_and_the_numbers_in_them(self):
        for given, pairs in (((1, 2, 3), ((1, 1), (3, 4), (6, 1), (11, 2), (12, 4))),
                             ((1, 2, 1), ((1, 1), (4, 0), (5, 2), (6, 1), (11, 2), (12, 4))),
                             ((2, 2, 2), ((1, 2), (3, 4), (6, 2), (11, 4), (12, 8))),
                             ((3, 2, 3), ((7, -2), (10, 3), (11, 1), (12, 2))),
                             ((3, 2, 4), ((7, -2), (9, 20), (10, 4), (11, 2), (12, 4)))):
            self.assertEqual(trace(self.ASKED, 10, given), pairs, given)
            values = dict(pairs)
            d = values[1] if 1 in values else values[7]
            self.assertEqual(run(self.ASKED, 10, given), ("ends", (values[12], d, values[12])))

    def test_trips_in_arms(self):
        self.assertEqual(run(self.ASKED, 2, (-2, 1, 2)), ("ends", (-8, -2, -8)))
        program = (INS, (), (("if", "a", "b", (("plus", "d", K, "a", "b"),), (("minus", "d", K, "a", "b"),)),), ("d",))
        self.assertEqual(run(program, 2, (2, 2, 0)), ("trips", 1, 4))
        self.assertEqual(run(program, 2, (2, 1, 0)), ("ends", (1,)))
        self.assertEqual(run(program, 2, (2, -1, 0)), ("trips", 2, 3))
        self.assertEqual(trace(program, 2, (2, -1, 0)), ((2, 3),))

    def test_an_if_at_equal_values_goes_through_the_first_arm(self):
        program = (INS, (), (("if", "a", "b", (("times", "d", K, 1, "c"),), (("times", "d", K, -1, "c"),)),), ("d",))
        for given, d in (((0, 0, 5), 5), ((-4, -4, 5), 5), ((-1, 0, 5), 5), ((0, -1, 5), -5), ((-3, -4, 5), -5)):
            self.assertEqual(run(program, 9, given), ("ends", (d,)), given)

    def test_one_name_against_itself(self):
        program = (INS, (), (("if", "a", "a", (("plus", "d", K, "a", "b"),), (("minus", "d", K, "a", "b"),)),), ("d",))
        for given in ((2, 3, 0), (-2, 3, 0)):
            self.assertEqual(run(program, 9, given), ("ends", (given[0] + given[1],)))

    def test_empty_arms(self):
        program = (INS, (), (("if", "a", "b", (), ()), ("if", "b", "a", (), (("plus", "d", K, "a", "b"),))), ("a",))
        self.assertEqual(trace(program, 9, (2, 1, 0)), ())
        self.assertEqual(trace(program, 9, (1, 2, 0)), ((2, 3),))
        self.assertEqual(run(program, 2, (1, 2, 0)), ("trips", 2, 3))

    def test_names_that_are_given_anew(self):
        body = (("if", "a", "b", (("plus", "d", ("both", 2), "a", "b"),), ()), ("minus", "d", K, "a", "b"),
                ("if", "d", "c", (), (("plus", "e", ("both", 3), "d", "d"),)), ("plus", "e", K, "d", "c"))
        program = (INS, (), body, ("e", "d"))
        self.assertEqual(run(program, 9, (2, 3, 1)), ("ends", (0, -1)))
        self.assertEqual(trace(program, 9, (2, 3, 1)), ((1, 5), (2, -1), (5, 0)))
        self.assertEqual(trace(program, 9, (3, 1, 1)), ((2, 2), (4, 4), (5, 3)))


class WrongInputs(unittest.TestCase):
    def test_programs(self):
        for call in (run, trace):
            for x in ANY_VALUES:
                self.assertIs(caught(BadProgram, call, x, x, x), x)
            for wrong in (list(P), P[:3], (INS, (), P[2], ("x",)), (INS, (), P[2][::-1], ("r",))):
                self.assertIs(caught(BadProgram, call, wrong, 0, None), wrong)

    def test_bounds(self):
        for call in (run, trace):
            for x in (*ANY_VALUES, -7, "1", (1,), [1], {1: 1}):
                if type(x) is not int or x < 1:
                    self.assertIs(caught(BadBound, call, P, x, (0, 0, 0)), x)
                    self.assertIs(caught(BadBound, call, P, x, None), x)
        self.assertEqual(run(P, 1, (0, 0, 0)), ("ends", (0,)))

    def test_given_integers(self):
        for call in (run, trace):
            for x in ANY_VALUES:
                self.assertIs(caught(BadGiven, call, P, 10, x), x)
                for k in range(3):
                    given = (1, 1, 1)[:k] + (x,) + (1, 1, 1)[k + 1:]
                    if type(x) is not int or not -10 <= x <= 10 or (k == 2 and x < 0):
                        self.assertIs(caught(BadGiven, call, P, 10, given), given)
            for given in ((), (0, 0), (0, 0, 0, 0), [0, 0, 0], (0, 0, True), (False, 0, 0), ((0, 0, 0),), "000",
                          (11, 0, 0), (-11, 0, 0), (0, 11, 0), (0, 0, 11), (0, 0, -1), {0: 0, 1: 0, 2: 0}):
                self.assertIs(caught(BadGiven, call, P, 10, given), given)

    def test_functions_are_defined_there(self):
        for name in ("run", "trace"):
            self.assertEqual(getattr(module, name).__module__, "tripmeans.runs")


class ManyPrograms(unittest.TestCase):
    def same(self, program, bound, given):
        pairs, found = walked(program, bound, given)
        self.assertEqual(run(program, bound, given), found)
        self.assertEqual(trace(program, bound, given), pairs)
        return found[0]

    def test_small_ones_at_all_inputs(self):
        words = []
        for seed in range(150):
            program = Maker(seed, wide=2, far=3, ins=3, most=10).program()
            for bound in (1, 2):
                words += [self.same(program, bound, given) for given in all_given(program, bound)]
        self.assertGreater(words.count("ends"), 500)
        self.assertGreater(words.count("trips"), 500)

    def test_large_ones(self):
        rand = random.Random(61)
        words = []
        for seed in range(400):
            program = Maker(seed).program()
            program = (program[0], (), *program[2:])
            for bound in BOUNDS:
                given = tuple(rand.randint(-k * bound if word == "both" else 0, k * bound)
                              for _, (word, k) in program[0])
                words.append(self.same(program, bound, given))
                words.append(self.same(program, bound, tuple(x // 20 if x > 0 else -(-x // 20) for x in given)))
        self.assertGreater(words.count("ends"), 400)
        self.assertGreater(words.count("trips"), 400)

    def test_all_numbers_can_be_multiplied(self):
        for seed in range(60):
            program = Maker(seed, wide=2, far=3, ins=2, most=10).program()
            for given in all_given(program, 2):
                for factor in (2, 5, 10 ** 30):
                    more = tuple(factor * x for x in given)
                    pairs = tuple((number, factor * value) for number, value in trace(program, 2, given))
                    self.assertEqual(trace(program, 2 * factor, more), pairs)


if __name__ == "__main__":
    unittest.main()
