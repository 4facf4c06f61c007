"""Part 6: reached values, least kinds, never tripping, needless registers, and their papers."""

import random
import unittest

from later_words import (does_fit, giving, is_kind_paper, is_never_paper, needed_somewhere, statements, untripped)
from support import ANY_VALUES, Maker, caught, changed_once, most_digits
from tripmeans import kinds as module
from tripmeans.errors import BadKind, BadNumber, BadProgram, TooWide
from tripmeans.kinds import (fitted, judge_kind, judge_never, kind_holds, least_kinds, needless_registers,
                             never_holds)
from tripmeans.programs import is_program
from tripmeans.refining import judge_alike
from tripmeans.walls import judge_empty
from words import all_given, giving_places, replaced, room, walked, ways

K, U = ("both", 1), ("up", 1)
K2, K3, U2, WIDE = ("both", 2), ("both", 3), ("up", 2), ("both", 30)
INS = (("a", U), ("b", U), ("c", U))
TWO = (("a", K), ("b", U))
SUM = (INS, (), (("minus", "d", K, "a", "b"), ("plus", "e", K, "d", "c")), ("e",))


def chosen(*body, ins=TWO, facts=(), outs=("a",)):
    return (ins, facts, body, outs)


def leastly(*body, **more):
    return dict(least_kinds(chosen(*body, **more)))


class LeastKinds(unittest.TestCase):
    def test_the_examples(self):
        self.assertEqual(least_kinds(SUM), ((0, K), (1, K2)))
        self.assertEqual(fitted(SUM)[2][1], ("plus", "e", K2, "d", "c"))
        self.assertEqual([judge_never(SUM)[0], never_holds(SUM, ("trips", 1, (1, 0, 1))), needless_registers(SUM)],
                         ["trips", True, (0,)])
        self.assertEqual(judge_kind(SUM, 1, K2)[0], "fits")
        self.assertIs(kind_holds(SUM, 1, U2, ("beyond", 1, (0, 1, 0))), True)
        self.assertIs(kind_holds(SUM, 0, K, ("fits", ((1, (1, 0, 0, 1, 0, 0), (), 0),
                                                      (1, (0, 1, 1, 0, 0, 0), (), 0)))), True)

    def test_by_hand(self):
        for item, kind in ((("plus", "d", K, "a", "b"), K2), (("plus", "d", K, "b", "b"), U2),
                           (("minus", "d", K, "b", "b"), U), (("minus", "d", K, "a", "a"), U),
                           (("times", "d", U, 0, "a"), U), (("times", "d", U, -12, "b"), ("both", 12)),
                           (("times", "d", U, 12, "b"), ("up", 12)), (("times", "d", U, -1, "b"), K),
                           (("least", "d", U, "a", "b"), K), (("greatest", "d", U, "a", "b"), U),
                           (("least", "d", U, "b", "b"), U), (("minus", "d", U, "a", "b"), K2),
                           (("greatest", "d", U, "a", "a"), K)):
            self.assertEqual(least_kinds(chosen(item)), ((0, kind),), item)

    def test_registers_do_not_count(self):
        found = leastly(("times", "d", U, 3, "a"), ("minus", "e", U, "d", "b"))
        self.assertEqual(found, {0: K3, 1: ("both", 4)})

    def test_facts_count(self):
        ordered = dict(ins=INS, facts=(("a", "b"), ("b", "c")))
        found = leastly(("minus", "d", K, "c", "a"), ("minus", "e", K, "a", "c"), ("minus", "f", K, "d", "b"), **ordered)
        self.assertEqual(found, {0: U, 1: K, 2: K})
        same = dict(ins=INS, facts=(("a", "b"), ("b", "a")))
        self.assertEqual(leastly(("minus", "d", K3, "a", "b"), ("plus", "e", K, "a", "b"), **same), {0: U, 1: U2})

    def test_what_is_met_ahead_counts_and_what_is_met_behind_does_not(self):
        arm = (("minus", "d", K, "b", "a"), ("least", "e", K, "d", "b"))
        found = leastly(("if", "a", "b", arm, (("minus", "d", K, "a", "b"),)), ("times", "f", K, -1, "d"))
        self.assertEqual(found, {1: U2, 2: U, 3: U, 4: K2})
        self.assertEqual(leastly(("minus", "d", K, "b", "a"), ("if", "a", "b", (), ())), {0: K2})

    def test_statements_that_are_never_reached(self):
        never = (("times", "d", K3, -12, "b"), ("times", "e", K3, 12, "d"), ("plus", "f", K3, "e", "e"))
        self.assertEqual(leastly(("if", "a", "a", (), never)), {1: U, 2: U, 3: U})
        self.assertEqual(leastly(("if", "b", "a", (), (("if", "b", "a", never, ()),))), {2: U, 3: U, 4: U})
        program = chosen(("if", "a", "a", (), never))
        for number in (1, 2, 3):
            for kind in (U, K, WIDE):
                paper = judge_kind(program, number, kind)
                self.assertEqual(paper[0], "fits")
                self.assertTrue(is_kind_paper(program, number, kind, paper))
        self.assertEqual(judge_never(program)[0], "never")
        self.assertEqual(needless_registers(program), (1, 2, 3))
        self.assertEqual(needless_registers(chosen(("plus", "c", K, "a", "b"), ("if", "a", "a", (), never))), (2, 3, 4))

    def test_where_a_value_is_not_come_to_its_bound(self):
        # b - a is above 0 here, but never at 0: and 2 a - b stays below B, and comes as near as is wanted.
        found = leastly(("if", "b", "a", (), (("minus", "d", K, "b", "a"), ("minus", "e", K, "a", "b"),
                                              ("plus", "f", K, "a", "b"))), ins=(("a", U), ("b", U)))
        self.assertEqual(found, {1: U, 2: K, 3: U2})

    def test_joined_statements(self):
        def fits(near, far):
            return fitted(chosen(("if", "a", "b", (("times", "d", K, near, "b"),), (("times", "d", K, far, "b"),)),
                                 outs=("d",)))[2][0]

        for near, far, kind in ((2, 3, ("up", 3)), (3, 2, ("up", 3)), (-2, 3, K3), (3, -2, K3), (-1, -4, ("both", 4)),
                                (0, 0, U)):
            then, other = fits(near, far)[3:]
            self.assertEqual((then[0][2], other[0][2]), (kind, kind))
        # Each has its own least kind, all the same.
        self.assertEqual(leastly(("if", "a", "b", (("times", "d", K, 2, "b"),), (("times", "d", K, -3, "b"),))),
                         {1: U2, 2: K3})

    def test_names_that_are_not_joined(self):
        inner = ("if", "b", "a", (("times", "d", K, 5, "b"),), ())
        body = (("if", "a", "b", (inner,), (("times", "d", U2, 2, "b"),)), ("times", "d", WIDE, 3, "a"))
        found = fitted(chosen(*body, outs=("d",)))
        self.assertEqual([item[2] for _, item in giving_places(found[2])], [("up", 5), U2, K3])

    def test_joined_within_arms(self):
        arms = ((("times", "d", K, 2, "b"),), (("times", "d", K, -3, "b"),))
        inner = ("if", "b", "a", *arms)
        body = (("if", "a", "b", (inner, ("plus", "e", K, "d", "b")), (("plus", "e", K, "a", "b"), inner)),)
        program = chosen(*body, outs=("e",))
        found = [item[2] for _, item in giving_places(fitted(program)[2])]
        self.assertEqual(found, [K3, K3, K3, K3, U2, U2])
        self.assertEqual(dict(least_kinds(program)), {2: U2, 3: K3, 4: K3, 5: U2, 7: U2, 8: U})

    def test_up_to_thirty(self):
        for factor, kind in ((10, ("up", 30)), (-10, ("both", 30))):
            program = chosen(("times", "c", K, factor, "b"), ("times", "d", K, 1, "c"), ins=(("b", ("up", 3)),),
                             outs=("b",))
            self.assertEqual(least_kinds(program), ((0, kind), (1, kind)))
            self.assertEqual(judge_never(fitted(program))[0], "never")
        for factor in (11, -11, 12):
            program = chosen(("plus", "c", K, "b", "b"), ("times", "d", K, 5, "b"), ("times", "e", K, factor, "b"),
                             ("times", "f", K, 12, "e"), ins=(("b", ("up", 3)),), outs=("b",))
            for call in (least_kinds, fitted):
                self.assertEqual(caught(TooWide, call, program), 2)
        both = chosen(("plus", "c", K, "a", "a"), ("plus", "d", K, "c", "a"), ins=(("a", ("both", 15)),))
        self.assertEqual(caught(TooWide, least_kinds, both), 1)
        self.assertEqual(least_kinds((*both[:2], both[2][:1], both[3])), ((0, WIDE),))
        # What is never reached is never too wide, and what no register holds back is.
        far = tuple(("times", name, U, 12, left) for name, left in zip("cdef", "bcde"))
        self.assertEqual(leastly(("if", "a", "a", (), far)), {number: U for number in range(1, 5)})
        self.assertEqual(caught(TooWide, least_kinds, chosen(("if", "a", "a", far, ()))), 2)


class ManyPrograms(unittest.TestCase):
    def programs(self, first, many, **more):
        for seed in range(first, first + many):
            program = Maker(seed, **more).program()
            if len(ways(program, 16)) <= 16:
                yield program

    def kept(self, program, number, kind):
        paper = judge_kind(program, number, kind)
        self.assertTrue(is_kind_paper(program, number, kind, paper), (program, number, kind, paper))
        self.assertIs(kind_holds(program, number, kind, paper), True)
        self.assertLessEqual(most_digits(paper), 60)
        return paper[0] == "fits"

    def test_least_kinds_fit_and_no_lesser_ones(self):
        seen = {"up": 0, "both": 0, "wide": 0}
        for program in (*self.programs(0, 150, wide=3, far=3, ins=3, most=9), *self.programs(150, 80, most=6)):
            try:
                found = least_kinds(program)
            except TooWide as e:
                seen["wide"] += 1
                self.assertFalse(self.kept(program, e.number, WIDE))
                for number in giving(program):
                    if number < e.number:
                        self.assertTrue(self.kept(program, number, WIDE))
                continue
            self.assertEqual([number for number, _ in found], giving(program))
            for number, (word, k) in found:
                seen[word] += 1
                self.assertTrue(self.kept(program, number, (word, k)))
                if k > 1:
                    self.assertFalse(self.kept(program, number, (word, k - 1)))
                    self.assertFalse(self.kept(program, number, ("both", k - 1)))
                if word == "both":
                    self.assertFalse(self.kept(program, number, ("up", 30)))
        self.assertGreater(min(seen.values()), 10)

    def test_at_many_bounds_and_inputs(self):
        for program in self.programs(200, 120, wide=2, far=3, ins=2, most=7):
            try:
                kinds, found = dict(least_kinds(program)), fitted(program)
            except TooWide:
                continue
            self.assertTrue(is_program(found))
            self.assertEqual((found[:2], found[3]), (program[:2], program[3]))
            self.assertEqual(judge_never(found)[0], "never")
            for bound in (1, 2, 3):
                for given in all_given(program, bound):
                    values, outs = untripped(program, given)
                    for number, value in values.items():
                        self.assertTrue(does_fit(kinds[number], bound, value))
                    self.assertEqual(walked(found, bound, given)[1], ("ends", outs))

    def test_fitted_changes_kinds_alone_and_no_more_than_is_asked(self):
        for program in self.programs(400, 60, wide=3, far=2, ins=3, most=8):
            try:
                kinds, found = dict(least_kinds(program)), fitted(program)
            except TooWide:
                continue
            for number, (one, other) in enumerate(zip(statements(program), statements(found))):
                if one[0] == "if":
                    self.assertEqual(one[:3], other[:3])
                    continue
                self.assertEqual((one[:2], one[3:]), (other[:2], other[3:]))
                self.assertTrue(kinds[number] == other[2] or self.is_joint(program, number, kinds, other[2]))

    def is_joint(self, program, number, kinds, kind):
        """Whether a kind is the joint one of a statement and the one that it is joined with."""
        items = statements(program)
        for at, item in enumerate(items):
            if item[0] == "if":
                inner = [k for k in range(at + 1, len(items)) if items[k] in item[3] + item[4]]
                for one in inner:
                    for other in inner:
                        if number in (one, other) and one < other and items[one][1] == items[other][1]:
                            pair = (kinds[one], kinds[other])
                            word = "up" if pair[0][0] == pair[1][0] == "up" else "both"
                            if kind == (word, max(pair[0][1], pair[1][1])):
                                return True
        return False

    def test_never_tripping(self):
        words = []
        for program in self.programs(500, 200, wide=6, far=2, ins=3, most=5):
            paper = judge_never(program)
            self.assertTrue(is_never_paper(program, paper), (program, paper))
            self.assertIs(never_holds(program, paper), True)
            words.append(paper[0])
            if paper[0] == "never":
                for bound in (1, 3):
                    for given in all_given(program, bound)[::5]:
                        self.assertEqual(walked(program, bound, given)[1][0], "ends")
        self.assertGreater(min(words.count("never"), words.count("trips")), 30)

    def test_needless_registers(self):
        seen = [0, 0]
        for program in self.programs(800, 150, wide=2, far=2, ins=2, most=6):
            found = needless_registers(program)
            for number in giving(program):
                seen[number in found] += 1
                self.assertEqual(number in found, self.is_needless(program, number))
                if number in found:
                    for bound in (1, 2, 3):
                        for given in all_given(program, bound):
                            self.assertFalse(needed_somewhere(program, number, bound, given))
            self.assertEqual(found, tuple(sorted(set(found))))
            self.same_without(program, found)
        self.assertGreater(min(seen), 50)

    def is_needless(self, program, number):
        """By asking for a point in the rooms of the ways without a register that it would not keep."""
        for entries, _ in ways(program):
            for at, entry in enumerate(entries):
                if entry[0] == "value" and entry[1] == number:
                    walls, stricts = room(program, (entries[:at] + entries[at + 1:], ()))
                    for sign in (1, -1):
                        low = 0 if (sign, entry[3][0]) == (-1, "up") else entry[3][1]
                        beyond = tuple(sign * x for x in entry[2]) + (-low,)
                        if judge_empty(len(beyond), walls, (*stricts, beyond))[0] == "point":
                            return False
        return True

    def same_without(self, program, found):
        """Programs with a wider kind of a needless register are alike to the program, if they are programs."""
        items = statements(program)
        for place, item in giving_places(program[2]):
            wider = (*program[:2], replaced(program[2], place, (*item[:2], WIDE, *item[3:])), program[3])
            number = [k for k in range(len(items)) if items[k] is item]
            if is_program(wider) and len(ways(program, 4)) <= 4 and len(number) == 1:
                alike = judge_alike(program, wider)[0] == "alike"
                self.assertTrue(alike or number[0] not in found)


class Papers(unittest.TestCase):
    PROGRAMS = (SUM, chosen(("greatest", "c", U, "a", "b"), ("if", "a", "c", (("minus", "d", U, "c", "a"),),
                                                            (("times", "d", U, 0, "a"),)), outs=("d",)),
                chosen(("least", "c", K, "a", "b"), ("minus", "d", K2, "b", "c"), outs=("d",)))

    def test_nearly_right_ones(self):
        refused = 0
        for program in self.PROGRAMS:
            for number in giving(program):
                for kind in (K, U, K2, K3):
                    paper = judge_kind(program, number, kind)
                    for other in changed_once(paper):
                        right = is_kind_paper(program, number, kind, other)
                        self.assertIs(kind_holds(program, number, kind, other), right, (program, other))
                        refused += not right
            paper = judge_never(program)
            for other in changed_once(paper):
                right = is_never_paper(program, other)
                self.assertIs(never_holds(program, other), right)
                refused += not right
        self.assertGreater(refused, 2000)

    def test_other_right_ones(self):
        program = chosen(("plus", "c", U, "a", "b"), ins=(("a", U), ("b", U)))
        for paper, right in ((("beyond", 1, (1, 1)), True), (("beyond", 10 ** 50, (10 ** 50, 1)), True),
                             (("beyond", 2, (1, 1)), False), (("beyond", 1, (2, 1)), False), (("beyond", 1, (1,)), False),
                             (("beyond", 1, (1, 1, 1)), False), (("beyond", 0, (1, 1)), False),
                             (("beyond", True, (1, 1)), False), (("beyond", 1, (1, True)), False),
                             (("beyond", 1, [1, 1]), False), (("trips", 1, (1, 1)), False)):
            self.assertIs(kind_holds(program, 0, U, paper), right, paper)
            self.assertIs(never_holds(program, ("trips", *paper[1:])), right or paper[0] == "trips", paper)

    def test_a_value_that_a_trip_keeps_back_is_beyond_all_the_same(self):
        program = chosen(("times", "c", K, 3, "a"), ("times", "d", K2, 1, "c"))
        self.assertIs(kind_holds(program, 1, K2, ("beyond", 1, (1, 0))), True)
        self.assertIs(never_holds(program, ("trips", 1, (1, 0))), True)
        self.assertIs(kind_holds(program, 1, K2, ("beyond", 1, (0, 1))), False)

    def test_a_statement_must_be_reached(self):
        program = chosen(("if", "a", "b", (("times", "c", K, 2, "a"),), ()))
        self.assertIs(kind_holds(program, 1, K, ("beyond", 1, (1, 1))), True)
        self.assertIs(kind_holds(program, 1, K, ("beyond", 1, (1, 0))), False)

    def test_any_values(self):
        for thing in (*ANY_VALUES, ("never",), ("never", ()), ("never", [()]), ("never", ((), ())), ("fits", ()),
                      ("fits", None), ("trips", 1, None), ("trips", None, (1, 0, 1)), (["fits"], ()), ("fits", ((), ()))):
            self.assertIs(kind_holds(SUM, 1, K2, thing), False)
            self.assertIs(never_holds(SUM, thing), False)
        self.assertIs(never_holds(chosen(), ("never", ())), True)
        self.assertEqual(judge_never(chosen()), ("never", ()))
        self.assertEqual((least_kinds(chosen()), fitted(chosen()), needless_registers(chosen())), ((), chosen(), ()))


class WrongInputs(unittest.TestCase):
    def test_programs(self):
        for x in (*ANY_VALUES, list(SUM), SUM[:3], (*SUM[:3], ("x",))):
            for call in (least_kinds, fitted, judge_never, needless_registers):
                self.assertIs(caught(BadProgram, call, x), x)
            self.assertIs(caught(BadProgram, never_holds, x, None), x)
            self.assertIs(caught(BadProgram, judge_kind, x, None, None), x)
            self.assertIs(caught(BadProgram, kind_holds, x, None, None, None), x)

    def test_numbers_then_kinds(self):
        program = chosen(("if", "a", "b", (("times", "c", K, 2, "a"),), ()), ("plus", "d", K, "a", "b"))
        for x in (*ANY_VALUES, 0, 3, -1, "1", (1,), [1]):
            if x not in (1, 2) or type(x) is not int:
                self.assertIs(caught(BadNumber, judge_kind, program, x, None), x)
                self.assertIs(caught(BadNumber, kind_holds, program, x, None, None), x)
        for x in (*ANY_VALUES, ("both", 0), ("up", 31), ("both", True), ["up", 1], ("neither", 1)):
            if x != K:
                self.assertIs(caught(BadKind, judge_kind, program, 1, x), x)
                self.assertIs(caught(BadKind, kind_holds, program, 2, x, None), x)

    def test_functions_are_defined_there(self):
        for name in ("least_kinds", "fitted", "judge_kind", "kind_holds", "judge_never", "never_holds",
                     "needless_registers"):
            self.assertEqual(getattr(module, name).__module__, "tripmeans.kinds")


class Limits(unittest.TestCase):
    def test_sixteen_ways_and_fourteen_statements(self):
        ins = tuple((name, (("both", "up")[k % 2], 1 + k % 2)) for k, name in enumerate("abcdef"))
        facts = (("a", "b"), ("a", "d"), ("b", "d"), ("c", "d"), ("c", "f"), ("d", "f"))
        known, body = [name for name, _ in ins], []
        for k in range(14):
            name = "x" + chr(97 + k)
            word = ("greatest", "least")[k % 2] if k in (0, 3, 6, 9) else ("minus", "times", "plus")[k % 3]
            one = (1, -1)[k % 2] if word == "times" else known[(5 * k + 1) % len(known)]
            body.append((word, name, ("both", 4), one, known[-1 - k % 6]))
            known.append(name)
        program = (ins, facts, tuple(body), ("xa",))
        self.assertEqual(len(ways(program)), 16)
        found = dict(least_kinds(program))
        fine = fitted(program)
        paper = judge_never(fine)
        self.assertEqual(paper[0], "never")
        self.assertIs(never_holds(fine, paper), True)
        self.assertIs(never_holds(program, paper), found == {k: ("both", 4) for k in range(14)})
        self.assertEqual(needless_registers(fine), tuple(range(14)))
        needless_registers(program)
        rand = random.Random(5)
        for _ in range(300):
            bound = rand.randint(1, 50)
            given = sorted(rand.randint(0, bound) for _ in ins)
            given = tuple(dict(zip("acebdf", given))[name] for name, _ in ins)
            self.assertEqual(walked(fine, bound, given)[1][0], "ends")


if __name__ == "__main__":
    unittest.main()
