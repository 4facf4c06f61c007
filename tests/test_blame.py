"""Part 11: statements that can trip or be reached, their papers, and at which bounds programs part."""

import random
import unittest

from later_words import apart, giving, is_trip_paper, statements
from support import ANY_VALUES, Maker, caught, changed_once, most_digits
from tripmeans import blame as module
from tripmeans.blame import (bounds_of_parting, can_be_reached, can_trip, first_parting, judge_trip, never_trips,
                             parts_at, trip_holds, tripping)
from tripmeans.errors import BadBound, BadGiven, BadNumber, BadProgram, Unlike
from tripmeans.kinds import judge_never
from tripmeans.partings import Parter
from tripmeans.refining import judge_alike
from words import all_given, changed_program, walked, ways

K, U = ("both", 1), ("up", 1)
K2, K3, U2, WIDE = ("both", 2), ("both", 3), ("up", 2), ("both", 30)
INS = (("a", U), ("b", U))
P = (INS, (), (("minus", "d", K, "a", "b"), ("plus", "s", K, "a", "b")), ("s",))
Q = (INS, (), (P[2][0], ("plus", "s", K2, "a", "b")), ("s",))
R = (INS, (), (("times", "t", K3, 2, "a"), ("plus", "s", K, "a", "b")), ("s",))
S = (INS, (), (("times", "t", K, 2, "a"), ("plus", "s", K, "a", "b")), ("s",))
HALF = (INS, (), (("times", "t", K, 2, "a"),), ("b",))
THIRD = (INS, (), (("times", "t", K2, 3, "a"),), ("b",))


def fork(then, other, small="a", large="b"):
    return ("if", small, large, tuple(then), tuple(other))


class Tripping(unittest.TestCase):
    def trips(self, program, number):
        """Whether a statement can trip; the paper is checked by the document's words."""
        paper = judge_trip(program, number)
        self.assertTrue(is_trip_paper(program, number, paper), (program, number, paper))
        self.assertIs(trip_holds(program, number, paper), True)
        self.assertIs(can_trip(program, number), paper[0] == "trips")
        self.assertLessEqual(most_digits(paper), 60)
        return paper[0] == "trips"

    def told(self, *body, ins=INS, facts=()):
        """The numbers of the statements that can trip, and of those that can be reached."""
        program = (ins, facts, body, ("a",))
        found = tuple(number for number in giving(program) if self.trips(program, number))
        self.assertEqual(tripping(program), found)
        self.assertIs(never_trips(program), not found)
        return found, tuple(number for number in giving(program) if can_be_reached(program, number))

    def test_the_example(self):
        self.assertEqual(tripping(P), (1,))
        self.assertIs(trip_holds(P, 1, ("trips", 1, (1, 1))), True)
        self.assertTrue(self.trips(P, 1))
        self.assertFalse(self.trips(P, 0))

    def test_registers_ahead_count(self):
        self.assertEqual(self.told(("plus", "c", U, "a", "b"), ("plus", "d", K, "b", "a")), ((0,), (0, 1)))
        self.assertEqual(self.told(("plus", "c", U2, "a", "b"), ("plus", "d", K, "b", "a")), ((1,), (0, 1)))
        self.assertEqual(self.told(("times", "c", U, 2, "a"), ("times", "d", U, 3, "a"), ("times", "e", U, 1, "d")),
                         ((0, 1), (0, 1, 2)))
        self.assertEqual(self.told(("times", "d", U, 3, "a"), ("times", "c", U, 2, "a")), ((0,), (0, 1)))

    def test_statements_that_are_not_come_to(self):
        never = [("times", "c", U, -12, "a"), ("times", "d", U, 12, "b")]
        self.assertEqual(self.told(fork([], never, "a", "a")), ((), ()))
        self.assertEqual(self.told(fork([], [fork(never, [], "a", "b")])), ((), ()))
        self.assertEqual(self.told(fork([], never), facts=(("a", "b"),)), ((), ()))
        # What trips at all points but those of the other arm: nothing comes to the arm.
        ahead = ("times", "e", U, -1, "a")
        self.assertEqual(self.told(ahead, fork([("times", "c", U, 1, "b")], never, "a", "b")), ((0,), (0, 2)))
        both = [("times", "c", K, -12, "a"), never[1]]
        self.assertEqual(self.told(ahead, fork([("times", "c", K, -1, "b")], both, "b", "a")), ((0, 4), (0, 2, 3, 4)))
        # One that trips always.
        only = ("greatest", "e", U, "a", "b")
        self.assertEqual(self.told(("minus", "m", K, "a", "b"), only), ((), (0, 1)))
        shut = (fork([("times", "e", U, -1, "a")], [("times", "f", U, -1, "a")]),)
        self.assertEqual(self.told(*shut, ("times", "g", U, 12, "a")), ((1, 2), (1, 2, 3)))

    def test_a_trip_without_a_way_past_it(self):
        ins = (("a", K),)
        body = (fork([("least", "c", K, "a", "a")], [], "a", "a"), ("times", "d", U, -1, "a"), ("times", "e", U, 1, "a"),
                ("times", "f", U, 5, "a"), ("times", "g", U, -5, "e"))
        self.assertEqual(self.told(*body, ins=ins), ((2, 3), (1, 2, 3, 4, 5)))

    def test_choices(self):
        body = (("least", "c", U, "a", "b"), ("plus", "d", K, "c", "c"), ("greatest", "e", K, "d", "a"),
                fork([("minus", "f", U, "e", "a")], [("minus", "f", U, "e", "b")], "a", "c"), ("times", "g", K, 2, "f"))
        self.assertEqual(self.told(*body), ((1, 6), (0, 1, 2, 4, 5, 6)))
        # At the second arm b is below a, so a - b and not b - a is kept from 0 on.
        body = (fork([("minus", "c", U, "a", "b")], [("minus", "c", U, "a", "b")]),)
        self.assertEqual(self.told(*body), ((1,), (1, 2)))

    def test_made_at_will_with_runs(self):
        seen = [0, 0, 0]
        for seed in range(250):
            program = Maker(seed, wide=2, far=2, ins=2, most=7).program()
            if len(ways(program, 8)) > 8:
                continue
            found, reached = self.told(*program[2], ins=program[0], facts=program[1]) if program[0][0][0] == "a" else (
                tripping(program), tuple(number for number in giving(program) if can_be_reached(program, number)))
            self.assertEqual(judge_never(program)[0] == "never", found == ())
            self.assertTrue(set(found) <= set(reached))
            met, come = set(), set()
            for bound in (1, 2, 3, 4):
                for given in all_given(program, bound)[::1 + bound // 3]:
                    pairs, ended = walked(program, bound, given)
                    come |= {number for number, _ in pairs}
                    if ended[0] == "trips":
                        met.add(ended[1])
            self.assertTrue(met <= set(found))
            self.assertTrue(come <= set(reached), (program, come, reached))
            seen[0] += len(found)
            seen[1] += len(giving(program)) - len(reached)
            for number in set(found) - met:
                _, bound, given = judge_trip(program, number)
                self.assertEqual(walked(program, bound, given)[1][:2], ("trips", number))
                seen[2] += 1
            for number in set(giving(program)) - set(found):
                self.assertTrue(is_trip_paper(program, number, judge_trip(program, number)))
        self.assertGreater(seen[0], 100)
        self.assertGreater(seen[1], 20)

    def test_nearly_right_papers(self):
        refused = 0
        program = (INS, (("a", "b"),), (("plus", "c", U2, "a", "b"), fork([("minus", "d", K, "b", "a")], []),
                                       ("least", "e", U, "c", "a")), ("e",))
        for some, numbers in ((P, (0, 1)), (program, (0, 2, 3)), (S, (0, 1))):
            for number in numbers:
                paper = judge_trip(some, number)
                for thing in changed_once(paper):
                    right = is_trip_paper(some, number, thing)
                    self.assertIs(trip_holds(some, number, thing), right)
                    refused += not right
                for thing in (*ANY_VALUES, ("never",), ("never", ()), ("never", None), ("trips", 1, None), (["never"], ()),
                              ("trips", None, (1, 1)), ("trips", 1, (0, 0)), ("trips", True, (1, 1))):
                    self.assertIs(trip_holds(some, number, thing), False)
        self.assertGreater(refused, 1500)
        # A run that trips, but at another statement.
        self.assertIs(trip_holds(S, 0, ("trips", 2, (1, 2))), False)
        self.assertIs(trip_holds(S, 1, ("trips", 2, (1, 2))), True)
        self.assertIs(trip_holds(S, 1, ("trips", 2, (2, 2))), False)
        self.assertIs(trip_holds(S, 0, ("trips", 2, (2, 2))), True)


def scanned(one, other, most):
    """The bounds at which two programs part, and the first parting, by trying all."""
    found = []
    for bound in range(1, most + 1):
        for given in all_given(one, bound):
            if apart(one, other, bound, given):
                found.append((bound, given))
                break
    return tuple(bound for bound, _ in found), (found or [None])[0]


class Parting(unittest.TestCase):
    def parted(self, one, other, most):
        bounds, first = scanned(one, other, most)
        for pair in ((one, other), (other, one)):
            self.assertEqual(first_parting(*pair, most), first)
            self.assertEqual(bounds_of_parting(*pair, most), bounds)
        return first

    def test_the_examples(self):
        self.assertEqual(first_parting(P, Q, 5), (1, (1, 1)))
        self.assertIs(parts_at(R, S, 1, (1, 0)), True)
        self.assertEqual(self.parted(R, S, 4), (1, (1, 0)))
        self.assertEqual(first_parting(HALF, THIRD, 9), (3, (2, 0)))
        self.assertEqual(bounds_of_parting(HALF, THIRD, 9), (3, 5, 6, 7, 8, 9))
        self.assertIsNone(first_parting(HALF, THIRD, 2))
        self.assertEqual(bounds_of_parting(HALF, THIRD, 2), ())
        self.assertEqual(bounds_of_parting(HALF, THIRD, 4), (3,))
        self.parted(HALF, THIRD, 9)

    def test_parts_at(self):
        for one, other, bound, given, right in (
                (P, Q, 1, (1, 1), True), (P, Q, 1, (1, 0), False), (P, P, 1, (1, 1), False), (R, S, 2, (2, 1), False),
                (R, S, 2, (2, 0), True), (S, R, 2, (2, 0), True), (P, S, 5, (5, 5), False), (HALF, THIRD, 3, (2, 3), True),
                (HALF, THIRD, 3, (3, 3), False)):
            self.assertIs(parts_at(one, other, bound, given), right)
            self.assertIs(parts_at(other, one, bound, given), right)
        outs = ((*P[:3], ("s", "a")), (*P[:3], ("s", "b")))
        for given, right in (((2, 3), True), ((2, 2), False), ((3, 3), False)):
            self.assertIs(parts_at(*outs, 5, given), right)

    def test_the_first_given_integers(self):
        ins = (("a", K), ("b", K2), ("c", U))
        near = (ins, (), (("plus", "d", K3, "a", "b"), ("minus", "e", K3, "d", "c")), ("e", "a"))
        for other in ((("plus", "d", K2, "a", "b"), near[2][1]), (near[2][0], ("minus", "e", K2, "d", "c")),
                      (near[2][0], ("minus", "e", K3, "d", "a")), (near[2][0], ("minus", "e", ("up", 3), "d", "c")),
                      (near[2][0], ("greatest", "e", K3, "d", "c"))):
            self.parted(near, (ins, (), other, ("e", "a")), 3)

    def test_facts(self):
        ins = (("a", K), ("b", U), ("c", U2))
        body = (("plus", "d", K2, "a", "b"), ("plus", "e", K3, "d", "c"))
        for facts in ((("a", "b"),), (("b", "c"), ("c", "a")), (("a", "c"), ("c", "a")), (("b", "a"), ("a", "b")),
                      (("a", "b"), ("b", "a"), ("b", "c"), ("c", "b")), (("c", "a"), ("c", "b"))):
            for other in ((("plus", "d", K, "a", "b"), body[1]), (body[0], ("plus", "e", K2, "d", "c")),
                          (body[0], ("minus", "e", K3, "d", "c")), (body[0], ("plus", "e", ("both", 4), "d", "c"))):
                self.parted((ins, tuple(sorted(facts)), body, ("e",)), (ins, tuple(sorted(facts)), other, ("e",)), 4)

    def test_bounds_that_are_multiples_of_several(self):
        # Only a = B / 3 and a = B / 4 part: at multiples of 3 and of 4.
        ins = (("a", U),)

        def exactly(part, name):
            """A value that fits its register everywhere but at a = B / part."""
            return (("times", name + "m", WIDE, part, "a"), ("plus", name + "n", WIDE, name + "m", "a"))

        self.assertEqual(len(exactly(3, "x")), 2)
        near = (ins, (), (("times", "t", K3, 4, "a"), ("times", "u", K2, 7, "a")), ("a",))
        far = (ins, (), (("times", "t", K3, 4, "a"), ("times", "u", U, 4, "a")), ("a",))
        bounds, _ = scanned(near, far, 30)
        self.assertEqual(bounds_of_parting(near, far, 30), bounds)
        self.assertGreater(len([b for b in bounds if not any(b % c == 0 for c in bounds if c < b)]), 1)
        self.parted(near, far, 30)

    def test_alike_programs_part_nowhere(self):
        for one, other in ((P, P), (P, (INS, (), P[2][::-1], ("s",))),
                           (P, (INS, (), (("plus", "s", K, "b", "a"), fork([], [])), ("s",)))):
            self.assertEqual(judge_alike(one, other)[0], "alike")
            self.assertIsNone(first_parting(one, other, 10 ** 99))
            self.assertEqual(bounds_of_parting(one, other, 10 ** 99), ())

    def test_far_bounds(self):
        ins = (("a", U),)
        near = (ins, (), (("times", "t", ("both", 11), 12, "a"),), ("a",))
        far = (ins, (), (("times", "t", ("both", 10), 11, "a"),), ("a",))
        # a is above 10 B / 11 and at most 11 B / 12.
        first = next(b for b in range(1, 2000) if any(11 * a > 10 * b and 12 * a <= 11 * b for a in range(b + 1)))
        self.assertEqual(first_parting(near, far, 2999)[0], first)
        self.assertIsNone(first_parting(near, far, first - 1))
        found = bounds_of_parting(near, far, 2999)
        self.assertEqual(found, tuple(b for b in range(1, 3000) if 11 * (11 * b // 12) > 10 * b))

    def test_made_at_will(self):
        rand = random.Random(111)
        seen = {True: 0, False: 0}
        for seed in range(500):
            one = Maker(seed, wide=2, far=3, ins=3, most=6).program()
            other = changed_program(rand, one)
            for _ in range(rand.randrange(2)):
                other = changed_program(rand, other)
            if len(ways(one, 16)) * len(ways(other, 16)) > 16 or len(all_given(one, 3)) > 400:
                continue
            first = self.parted(one, other, 3)
            seen[first is not None] += 1
            if first is not None:
                self.assertIs(parts_at(one, other, *first), True)
                for many in (2, 3):
                    self.assertIs(parts_at(one, other, first[0] * many, tuple(many * x for x in first[1])), True)
                self.assertEqual(judge_alike(one, other)[0], "parts")
            for given in rand.sample(all_given(one, 2), min(5, len(all_given(one, 2)))):
                self.assertIs(parts_at(one, other, 2, given), apart(one, other, 2, given))
        self.assertGreater(min(seen.values()), 60)

    def test_many_given_integers(self):
        # About 3,000 tuples at the last bound; programs of twelve statements with four ways each.
        for ins, most in (((("a", U),), 2999), ((("a", U), ("b", U)), 53), ((("a", ("up", 30)), ("b", U)), 9),
                          ((("a", U), ("b", U), ("c", U)), 13), (tuple((name, U) for name in "abcdef"), 2)):
            first, last = ins[0][0], ins[-1][0]

            def made(kind, factor):
                body = [("greatest", "wa", WIDE, first, last), ("least", "wb", WIDE, first, last)]
                body += [("times", "x" + chr(97 + k), WIDE, 1, ("wa", "wb")[k % 2]) for k in range(9)]
                return (ins, (), (*body, ("times", "t", kind, factor, first)), (first,))

            near, far = made(("both", 3), 7), made(("both", 5), 12)
            bounds = bounds_of_parting(near, far, most)
            self.assertEqual(bool(bounds), first_parting(near, far, most) is not None)
            for bound in bounds[:1]:
                given = first_parting(near, far, most)[1]
                self.assertTrue(apart(near, far, bound, given))
            parter = Parter(near, near)
            self.assertEqual([bound for bound in range(1, most + 1) if parter.first_given(bound) is not None], [])
            self.assertEqual(len(statements(near)), 12)


class WrongInputs(unittest.TestCase):
    def test_programs(self):
        for x in (*ANY_VALUES, list(P), P[:3], (*P[:3], ("x",))):
            for call in (tripping, never_trips):
                self.assertIs(caught(BadProgram, call, x), x)
            for call in (can_trip, can_be_reached, judge_trip):
                self.assertIs(caught(BadProgram, call, x, None), x)
            self.assertIs(caught(BadProgram, trip_holds, x, None, None), x)
            for call in (first_parting, bounds_of_parting):
                self.assertIs(caught(BadProgram, call, x, None, None), x)
                self.assertIs(caught(BadProgram, call, P, x, None), x)
            self.assertIs(caught(BadProgram, parts_at, x, None, None, None), x)
            self.assertIs(caught(BadProgram, parts_at, P, x, None, None), x)

    def test_numbers(self):
        program = (INS, (), (fork([("plus", "c", K, "a", "b")], []),), ("a",))
        for x in (*ANY_VALUES, 0, 2, -1, "1", (1,), [1]):
            if type(x) is not int or x != 1:
                for call in (can_trip, can_be_reached, judge_trip):
                    self.assertIs(caught(BadNumber, call, program, x), x)
                self.assertIs(caught(BadNumber, trip_holds, program, x, None), x)

    def test_unlike_ones(self):
        for other in (((("a", U), ("b", K)), *P[1:]), (INS, (("a", "b"),), *P[2:]), (*P[:3], ("s", "s")),
                      (INS[::-1], *P[1:])):
            self.assertIs(caught(Unlike, parts_at, P, other, None, None), other)
            self.assertIs(caught(Unlike, first_parting, P, other, None), other)
            self.assertIs(caught(Unlike, bounds_of_parting, P, other, None), other)

    def test_bounds_and_given_integers(self):
        for x in (*ANY_VALUES, 0, -1, "1"):
            if type(x) is not int or x < 1:
                self.assertIs(caught(BadBound, parts_at, P, Q, x, None), x)
                for pair in ((P, Q), (P, P)):
                    self.assertIs(caught(BadBound, first_parting, *pair, x), x)
                    self.assertIs(caught(BadBound, bounds_of_parting, *pair, x), x)
        for x in (*ANY_VALUES, (6, 0), (-1, 0), (0,), (0, 0, 0), [0, 0], (True, 0)):
            if x != (1, 2):
                self.assertIs(caught(BadGiven, parts_at, P, Q, 5, x), x)

    def test_functions_are_defined_there(self):
        for name in ("can_trip", "can_be_reached", "judge_trip", "trip_holds", "tripping", "never_trips", "parts_at",
                     "first_parting", "bounds_of_parting"):
            self.assertEqual(getattr(module, name).__module__, "tripmeans.blame")


if __name__ == "__main__":
    unittest.main()
