"""Part 5: refining and being alike, checks and their order, papers."""

import random
import unittest

from support import ANY_VALUES, Maker, caught, changed_once, most_digits
from tripmeans import refining as module
from tripmeans.errors import BadProgram, Unlike
from tripmeans.refining import alike_holds, checks_of, does_refine, judge_alike, judge_refines, refines_holds
from tripmeans.single import judge_never_more
from words import (all_checks, all_given, changed_program, do_part, is_alike_paper, is_refines_paper, walked, ways)

K, U = ("both", 1), ("up", 1)
K2, K3, WIDE = ("both", 2), ("both", 3), ("both", 30)
INS = (("a", U), ("b", U))
BOTH = (("a", K), ("b", K))
FAR = (INS, (), (("minus", "c", K, "a", "b"), ("if", "a", "b", (("times", "d", U, -1, "c"),),
                                              (("times", "d", U, 1, "c"),))), ("d",))
NEAR = (INS, (), (("greatest", "c", U, "a", "b"), ("least", "d", U, "a", "b"), ("minus", "e", U, "c", "d")), ("e",))
TWICE = (INS, (), (("plus", "c", U, "a", "a"), ("minus", "d", U, "c", "a")), ("d",))
SAME = (INS, (), (("times", "c", U, 1, "a"),), ("c",))
LEAST = (BOTH, (), (("least", "c", K, "a", "b"),), ("c",))
LATER = (BOTH, (), (("if", "b", "a", (("times", "c", K, 1, "b"),), (("times", "c", K, 1, "a"),)),), ("c",))
NO_PROGRAMS = (*ANY_VALUES, list(FAR), FAR[:3], (INS, (), FAR[2], ("x",)), (INS, FAR[2], (), ("d",)))


class Asked(unittest.TestCase):
    def refined(self, one, other):
        """Whether the second one refines the first one; the paper is checked by the document's words."""
        paper = judge_refines(one, other)
        self.assertTrue(is_refines_paper(one, other, paper), (one, other, paper))
        self.assertIs(refines_holds(one, other, paper), True)
        self.assertIs(does_refine(one, other), paper[0] == "refines")
        self.assertLessEqual(most_digits(paper), 60)
        return paper[0] == "refines"

    def alike(self, one, other):
        paper = judge_alike(one, other)
        self.assertTrue(is_alike_paper(one, other, paper), (one, other, paper))
        self.assertIs(alike_holds(one, other, paper), True)
        self.assertLessEqual(most_digits(paper), 60)
        return paper[0] == "alike"


class Checks(unittest.TestCase):
    def test_by_hand(self):
        one = (BOTH[:1], (), (("greatest", "c", K, "a", "a"),), ("c", "a"))
        other = (BOTH[:1], (), (("least", "c", U, "a", "a"), ("times", "d", K2, 2, "c")), ("d", "a"))
        start = ((-1, 1), (1, 1))
        near, far = (*start, (0, 0), (-1, 1), (1, 1)), (*start, (-1, 1), (1, 1))
        found = []
        for walls, stricts in ((near, ()), (far, ((0, 0),))):
            for more in (((0, 0),), ()):
                room = (walls + more, stricts + (() if more else ((0, 0),)))
                for wall in ((-1, 1), (1, 0), (-2, 2), (2, 2), (-1, 0), (1, 0), (0, 0), (0, 0)):
                    found.append((*room, wall))
        self.assertEqual(checks_of(one, other), tuple(found))

    def test_meets_are_put_behind_as_they_come(self):
        other = (INS, (), (("plus", "c", K2, "a", "b"), ("if", "a", "b", (), (("plus", "d", K3, "c", "a"),)),
                           ("times", "e", WIDE, 2, "c")), ("e",))
        walls = ((-1, 0, 1), (1, 0, 0), (0, -1, 1), (0, 1, 0), (-1, 0, 1), (1, 0, 0))
        meets, strict = (-1, 1, 0), (1, -1, 0)
        found = [(walls, (), (-1, -1, 2)), (walls, (), (1, 1, 2))]
        found += [((*walls, meets), (), wall) for wall in ((-2, -2, 30), (2, 2, 30), (-1, -2, 0), (1, 2, 0))]
        found += [(walls, (), (-1, -1, 2)), (walls, (), (1, 1, 2))]
        found += [(walls, (strict,), wall) for wall in ((-2, -1, 3), (2, 1, 3), (-2, -2, 30), (2, 2, 30),
                                                        (-1, -2, 0), (1, 2, 0))]
        self.assertEqual(checks_of(SAME, other), tuple(found))

    def test_the_example(self):
        self.assertEqual(len(checks_of(FAR, FAR)), 24)

    def test_outs_alone(self):
        one, other = (INS, (("a", "b"),), (), ("a", "b", "a", "a")), (INS, (("a", "b"),), (), ("b", "b", "a", "b"))
        start = ((-1, 0, 1), (1, 0, 0), (0, -1, 1), (0, 1, 0), (-1, 1, 0))
        ds = ((1, -1), (0, 0), (0, 0), (1, -1))
        self.assertEqual(checks_of(one, other), tuple((start, (), tuple(sign * x for x in (*d, 0)))
                                                      for d in ds for sign in (1, -1)))

    def test_made_at_will(self):
        rand = random.Random(91)
        for seed in range(200):
            one = Maker(seed, most=8).program()
            other = changed_program(rand, one)
            if len(ways(one, 16)) * len(ways(other, 16)) <= 16:
                self.assertEqual(checks_of(one, other), all_checks(one, other))
                self.assertEqual(checks_of(other, one), all_checks(other, one))


class Refining(Asked):
    def test_the_examples(self):
        self.assertEqual([does_refine(FAR, NEAR), does_refine(NEAR, FAR), judge_alike(FAR, NEAR)[0]],
                         [True, True, "alike"])
        self.assertEqual([does_refine(TWICE, SAME), judge_refines(SAME, TWICE)[0]], [True, "parts"])
        self.assertIs(refines_holds(SAME, TWICE, ("parts", 1, (1, 0))), True)
        self.assertIs(alike_holds(TWICE, SAME, ("parts", 1, 1, (1, 0))), True)
        self.assertIs(refines_holds(SAME, SAME, ("parts", 1, (1, 0))), False)

    def test_by_hand(self):
        def made(*body, outs=("c",), ins=INS, facts=()):
            return (ins, facts, body, outs)

        plus, swapped = made(("plus", "c", U, "a", "b")), made(("plus", "c", U, "b", "a"))
        wide = made(("plus", "c", ("up", 2), "a", "b"))
        difference = made(("minus", "c", K, "a", "b"))
        sorted_ones = dict(facts=(("b", "a"),))
        for one, other, near, far in (
                (plus, swapped, True, True), (plus, wide, True, False), (SAME, TWICE, False, True),
                (plus, made(("plus", "c", K, "a", "b")), True, True),
                (difference, made(("minus", "c", U, "a", "b")), False, True),
                (made(("minus", "c", K, "a", "b"), **sorted_ones), made(("minus", "c", U, "a", "b"), **sorted_ones),
                 True, True),
                (LEAST, LATER, True, True), (LEAST, (BOTH, (), (("least", "c", K, "b", "a"),), ("c",)), True, True),
                (LEAST, (BOTH, (), (("greatest", "c", K, "b", "a"),), ("c",)), False, False),
                # Other outs at a few inputs only, or in one of several places.
                (made(("least", "c", K, "a", "b")), made(("times", "c", K, 1, "a")), False, False),
                (made(("least", "c", K, "a", "b"), facts=(("a", "b"),)), made(outs=("a",), facts=(("a", "b"),)),
                 True, True),
                (made(outs=("a", "a", "b")), made(outs=("a", "b", "b")), False, False),
                (made(outs=("a", "a", "b", "b")), made(outs=("a", "a", "b", "b")), True, True),
                # The largest factor turns up nowhere: 12 a trips unless a is 0.
                (made(("times", "c", U, 12, "a")), made(outs=("a",)), False, False),
                # One that trips everywhere but in a point, which ends with zeros alone there.
                (made(("plus", "d", U, "a", "b"), ("times", "c", U, -1, "d")), made(("times", "c", U, 2, "b")),
                 True, False),
                (made(("times", "d", U, -1, "a"), outs=("a",)), made(("minus", "c", U, "b", "b")), True, False),
                (made(("times", "d", U, -1, "a"), outs=("a",)), made(("times", "c", U, 3, "b")), False, False)):
            self.assertEqual((self.refined(one, other), self.refined(other, one)), (near, far), (one, other))
            self.assertEqual(self.alike(one, other), near and far)
            self.assertEqual(self.alike(other, one), near and far)

    def test_statements_without_effect(self):
        plain = (INS, (), (("plus", "c", ("up", 2), "a", "b"),), ("c",))
        for more, near in ((("minus", "d", K, "a", "b"), True), (("minus", "d", U, "a", "b"), False),
                           (("minus", "d", U, "c", "b"), True), (("if", "a", "b", (), ()), True),
                           (("if", "a", "b", (), (("minus", "d", U, "a", "b"),)), True),
                           (("if", "a", "b", (("minus", "d", U, "a", "b"),), ()), False),
                           (("if", "a", "a", (), (("times", "d", U, -12, "c"),)), True),
                           (("least", "d", U, "c", "c"), False), (("least", "d", ("up", 2), "c", "c"), True),
                           (("times", "d", U, 0, "c"), True)):
            other = (INS, (), (*plain[2], more), ("c",))
            self.assertEqual((self.refined(plain, other), self.refined(other, plain)), (near, True), more)

    def test_choices_within_choices(self):
        def nested(left, right):
            inner = ("if", "b", "c", (("plus", "e", K2, "a", "b"),), (("plus", "e", K2, "a", "c"),))
            outer = ("if", "a", "b", (inner, ("times", "f", K2, 1, "e")),
                     (("times", "e", K, left, "a"), ("plus", "f", K2, "e", right)))
            return ((("a", U), ("b", U), ("c", U)), (), (outer, ("minus", "g", K3, "f", "a")), ("g", "f", "g"))

        one = nested(1, "c")
        bodies = (("least", "d", U, "b", "c"), ("greatest", "e", U, "a", "d"), ("plus", "f", K2, "e", "d"))
        self.assertTrue(self.alike(one, one))
        self.assertFalse(self.alike(one, nested(1, "b")))
        self.assertFalse(self.alike(one, nested(-1, "c")))
        # A name that both arms give, and one that is given anew behind an arm that gave it.
        flat = (one[0], (), (("if", "a", "b", (("least", "e", K2, "b", "c"),), (("times", "e", K2, 1, "c"),)),
                             ("plus", "f", K2, "a", "e"), ("minus", "g", K3, "f", "a")), ("g", "f", "g"))
        self.assertTrue(self.alike(one, flat))
        anew = (*flat[:2], (("if", "a", "b", (("plus", "f", K2, "a", "a"),), ()), *flat[2]), flat[3])
        self.assertTrue(self.alike(one, anew))
        other = (*flat[:2], (*bodies, ("minus", "g", K3, "f", "a")), ("g", "f", "g"))
        self.assertFalse(self.alike(one, other))

    def test_parts_where_the_second_one_trips_or_ends_otherwise(self):
        trips = judge_refines(SAME, TWICE)
        self.assertEqual(walked(TWICE, *trips[1:])[1][0], "trips")
        other = (INS, (), (("times", "c", K2, 2, "a"),), ("c",))
        ends = judge_refines(SAME, other)
        self.assertEqual((ends[0], walked(other, *ends[1:])[1][0]), ("parts", "ends"))

    def test_single_ones_with_these_outs_refine_as_they_never_trip_more(self):
        rand = random.Random(92)
        words = []
        for seed in range(120):
            program = Maker(seed, wide=3, far=3, ins=3, most=5).program()
            body = tuple(item for item in program[2] if item[0] in ("plus", "minus", "times"))
            one = (*program[:2], body, (program[0][0][0],))
            known = {name for name, _ in program[0]} | {item[1] for item in body}
            if any(name not in known for item in body for name in item[3:] if type(name) is str):
                continue
            other = changed_program(rand, one, ("plus", "minus", "times"))
            other = (*other[:3], one[3])
            words.append(judge_never_more(one, other)[0] == "weights")
            self.assertEqual(self.refined(one, other), words[-1])
        self.assertGreater(len(words), 50)


class ManyPrograms(Asked):
    def test_at_many_bounds_and_inputs(self):
        rand = random.Random(93)
        answers = []
        for seed in range(500):
            one = Maker(seed, wide=3, far=2, ins=3, most=7).program()
            other = one
            for _ in range(rand.randint(1, 2)):
                other = changed_program(rand, other)
            if len(ways(one, 16)) * len(ways(other, 16)) > 16:
                continue
            answers.append(self.refined(one, other))
            for bound in (1, 2, 3) if answers[-1] else ():
                for given in all_given(one, bound)[::2]:
                    self.assertFalse(do_part(one, other, bound, given), (one, other, bound, given))
        self.assertGreater(answers.count(True), 100)
        self.assertGreater(answers.count(False), 100)

    def test_alike_at_many_bounds_and_inputs(self):
        rand = random.Random(94)
        answers, turns = [], []
        for seed in range(500):
            one = Maker(seed, wide=2, far=2, ins=2, most=6).program()
            other = changed_program(rand, one)
            if seed % 2:
                one, other = other, one
            if len(ways(one, 16)) * len(ways(other, 16)) > 16:
                continue
            answers.append(self.alike(one, other))
            self.assertEqual(answers[-1], does_refine(one, other) and does_refine(other, one))
            if not answers[-1]:
                turns.append(judge_alike(one, other)[1])
                continue
            for bound in (1, 2, 3):
                for given in all_given(one, bound):
                    runs = [walked(program, bound, given)[1] for program in (one, other)]
                    self.assertTrue(runs[0] == runs[1] or [found[0] for found in runs] == ["trips"] * 2)
        self.assertGreater(answers.count(True), 50)
        self.assertGreater(turns.count(0), 20)
        self.assertGreater(turns.count(1), 10)

    def test_each_program_is_alike_to_itself(self):
        for seed in range(60):
            program = Maker(seed, most=8).program()
            if len(ways(program, 4)) <= 4:
                self.assertTrue(self.alike(program, program))


class Limits(Asked):
    INS = tuple((name, (("both", "up")[k % 2], k + 1)) for k, name in enumerate("abcdef"))
    FACTS = (("a", "b"), ("a", "d"), ("b", "d"), ("c", "d"), ("c", "f"), ("d", "f"))

    def made(self, choices, shift=0):
        """A program of twelve statements, so many of them choices with two ways each, with four outs."""
        known, body = [name for name, _ in self.INS], []
        for k in range(12):
            name = "x" + chr(97 + k)
            word = "greatest" if k < choices else ("plus", "minus", "times")[k % 3]
            one = (2, -3)[k % 2] if word == "times" else known[(5 * k + 1) % len(known)]
            body.append((word, name, ("both", 30 - (k + shift) % 3), one, known[-1 - k % 6]))
            known.append(name)
        return (self.INS, self.FACTS, tuple(body), ("xa", "xe", "xh", "xa"))

    def test_sixteen_pairs_of_ways(self):
        for near, far in ((0, 4), (1, 3), (2, 2), (4, 0)):
            one, other = self.made(near), self.made(far)
            self.assertEqual(len(checks_of(one, other)), 16 * (24 + 8))
            self.refined(one, other)
            self.refined(other, one)
        one = self.made(2)
        wider = (*one[:2], tuple((word, name, WIDE, *right) for word, name, _, *right in one[2]), one[3])
        self.assertTrue(self.refined(one, wider))
        self.assertTrue(self.alike(one, one))
        self.assertTrue(self.alike(one, (*one[:2], tuple(
            (word, name, kind, *(right[::-1] if word == "greatest" else right)) for word, name, kind, *right in one[2]),
            one[3])))

    def test_sixteen_ways_and_one(self):
        leasts = tuple(("least", "x" + n, K2, "a", "b") for n in "abcd")
        one = (BOTH, (), (*leasts, ("plus", "c", ("both", 4), "xa", "xd")), ("c",))
        other = (BOTH, (), (("if", "a", "b", (("times", "c", K2, 2, "a"),), (("times", "c", K2, 2, "b"),)),), ("c",))
        single = (BOTH, (), (("plus", "c", K2, "a", "b"),), ("c",))
        self.assertFalse(self.refined(one, single))
        self.assertFalse(self.refined(single, one))
        self.assertTrue(self.alike(one, other))

    def test_somewhat_beyond_it_is_answered_too(self):
        leasts = tuple(("least", "x" + n, K2, "a", "b") for n in "abcdef")
        one, other = (BOTH, (), leasts, ("xc",)), (BOTH, (), leasts[:1], ("xa",))
        self.assertEqual(len(ways(one)), 64)
        self.assertTrue(self.alike(one, other))


class Papers(unittest.TestCase):
    PAIRS = ((TWICE, SAME), (SAME, TWICE), (LEAST, LATER), (SAME, SAME), (TWICE, TWICE))

    def test_nearly_right_ones(self):
        rights = 0
        for one, other in self.PAIRS:
            for thing in changed_once(judge_refines(one, other)):
                found = refines_holds(one, other, thing)
                self.assertIs(found, is_refines_paper(one, other, thing), thing)
                rights += found
        self.assertGreater(rights, 0)

    def test_nearly_right_ones_of_being_alike(self):
        rights = 0
        for one, other in (*self.PAIRS[:2], (SAME, (INS, (), (), ("a",))), (SAME, (INS, (), (), ("b",)))):
            for thing in changed_once(judge_alike(one, other)):
                found = alike_holds(one, other, thing)
                self.assertIs(found, is_alike_paper(one, other, thing), thing)
                rights += found
        self.assertGreater(rights, 0)

    def test_papers_of_another_pair(self):
        one, other = judge_refines(TWICE, SAME), judge_refines(LEAST, LATER)
        self.assertIs(refines_holds(LEAST, LATER, one), False)
        self.assertIs(refines_holds(TWICE, SAME, other), False)
        self.assertIs(refines_holds(SAME, TWICE, one), False)
        near, far = judge_alike(FAR, NEAR)[1:]
        self.assertIs(alike_holds(FAR, NEAR, ("alike", near, far)), True)
        self.assertIs(alike_holds(NEAR, FAR, ("alike", far, near)), True)
        self.assertIs(alike_holds(FAR, NEAR, ("alike", far, near)), False)
        self.assertIs(alike_holds(FAR, NEAR, ("alike", near, near)), False)
        self.assertIs(alike_holds(FAR, NEAR, ("refines", near)), False)
        self.assertIs(refines_holds(FAR, NEAR, ("alike", near, far)), False)
        self.assertIs(refines_holds(FAR, NEAR, ("refines", near)), True)
        self.assertIs(refines_holds(FAR, NEAR, ("refines", near[:-1])), False)
        self.assertIs(refines_holds(FAR, NEAR, ("refines", near + near[-1:])), False)
        self.assertIs(refines_holds(FAR, NEAR, ("refines", list(near))), False)

    def test_weights_of_empty_rooms(self):
        # The strict wall of zeros shows that the room is empty: then m may be 0.
        one = (INS, (), (("least", "c", U, "a", "a"),), ("c",))
        papers = judge_refines(one, SAME)[1]
        self.assertEqual(len(papers), 8)
        empty = (0, (0,) * 6, (1,), 0)
        self.assertIs(refines_holds(one, SAME, ("refines", papers[:4] + (empty,) * 4)), True)
        nothing = (0, (0,) * 6, (0,), 0)
        self.assertIs(refines_holds(one, SAME, ("refines", papers[:4] + (empty,) * 3 + (nothing,))), False)
        self.assertIs(refines_holds(one, SAME, ("refines", ((0, (0,) * 7, (), 0),) + papers[1:])), False)

    def test_points(self):
        for one, other, bound, inputs, right in (
                (SAME, TWICE, 1, (1, 0), True), (SAME, TWICE, 2, (2, 1), True), (SAME, TWICE, 5, (3, 0), True),
                (SAME, TWICE, 5, (2, 0), False), (SAME, TWICE, 5, (6, 0), False), (SAME, TWICE, 5, (-1, 0), False),
                (SAME, TWICE, 5, (3, 6), False), (SAME, TWICE, 0, (0, 0), False), (SAME, TWICE, True, (1, 0), False),
                (SAME, TWICE, 1, [1, 0], False), (SAME, TWICE, 1, (1, False), False), (SAME, TWICE, 1, (1,), False),
                (SAME, TWICE, 1, (1, 0, 0), False), (SAME, TWICE, -1, (1, 0), False), (TWICE, SAME, 1, (1, 0), False),
                (SAME, TWICE, 10 ** 60, (10 ** 60, 0), True), (FAR, NEAR, 1, (1, 0), False)):
            self.assertIs(refines_holds(one, other, ("parts", bound, inputs)), right, (bound, inputs))
            self.assertIs(alike_holds(one, other, ("parts", 0, bound, inputs)), right)
            self.assertIs(alike_holds(other, one, ("parts", 1, bound, inputs)), right)
            self.assertIs(alike_holds(other, one, ("parts", 0, bound, inputs)),
                          is_refines_paper(other, one, ("parts", bound, inputs)))
        facts = [(INS, (("a", "b"),), *program[2:]) for program in (SAME, TWICE)]
        self.assertIs(refines_holds(*facts, ("parts", 1, (1, 0))), False)
        self.assertIs(refines_holds(*facts, ("parts", 1, (1, 1))), True)

    def test_points_where_both_end_but_with_other_outs(self):
        other = (INS, (), (), ("b",))
        for inputs, right in (((1, 0), True), ((0, 1), True), ((1, 1), False), ((0, 0), False)):
            self.assertIs(refines_holds(SAME, other, ("parts", 1, inputs)), right)
            self.assertIs(alike_holds(SAME, other, ("parts", 1, 1, inputs)), right)

    def test_points_where_both_trip(self):
        more = (INS, (), (("times", "c", U, 3, "a"), ("times", "d", U, 1, "a")), ("d",))
        self.assertIs(refines_holds(TWICE, more, ("parts", 1, (1, 0))), False)
        self.assertIs(alike_holds(TWICE, more, ("parts", 0, 1, (1, 0))), False)
        self.assertIs(alike_holds(TWICE, more, ("parts", 1, 1, (1, 0))), False)
        self.assertIs(refines_holds(TWICE, more, ("parts", 2, (1, 0))), True)

    def test_turns(self):
        for turn in (*ANY_VALUES, -1, 2, False, True, "0", "1"):
            right = type(turn) is int and turn == 1
            self.assertIs(alike_holds(TWICE, SAME, ("parts", turn, 1, (1, 0))), right, turn)

    def test_wrong_words_and_numbers_of_items(self):
        for thing in (("part", 1, (1, 0)), ("trips", 1, (1, 0)), ("parts", 1, (1, 0), 0), ("parts", 1),
                      ["parts", 1, (1, 0)], ("parts", (1, 0), 1), ("parts", 0, 1, (1, 0)), ("refines", 1, (1, 0)),
                      ("PARTS", 1, (1, 0)), "parts"):
            self.assertIs(refines_holds(SAME, TWICE, thing), False)
            self.assertIs(alike_holds(SAME, TWICE, thing), thing == ("parts", 0, 1, (1, 0)))

    def test_any_value_is_no_paper(self):
        papers = judge_refines(TWICE, SAME)[1]
        for x in ANY_VALUES:
            for call in (refines_holds, alike_holds):
                self.assertIs(call(TWICE, SAME, x), False)
                self.assertIs(call(TWICE, SAME, (x,)), False)
                self.assertIs(call(TWICE, SAME, (x, papers)), False)
                self.assertIs(call(TWICE, SAME, (x, papers, papers)), False)
                self.assertIs(call(TWICE, SAME, (x, 1, 1, (1, 0))), False)
            self.assertIs(refines_holds(TWICE, SAME, ("refines", x)), False)
            self.assertIs(refines_holds(TWICE, SAME, ("refines", (x, *papers[1:]))), False)
            self.assertIs(refines_holds(SAME, TWICE, ("parts", x, (1, 0))), x == 1 and type(x) is int)
            self.assertIs(refines_holds(SAME, TWICE, ("parts", 1, x)), False)
            self.assertIs(alike_holds(SAME, SAME, ("alike", x, x)), False)
            self.assertIs(alike_holds(TWICE, SAME, ("parts", 1, 1, x)), False)


class WrongInputs(unittest.TestCase):
    CALLS = ((checks_of, ()), (does_refine, ()), (judge_refines, ()), (refines_holds, (None,)), (judge_alike, ()),
             (alike_holds, (None,)))

    def test_programs(self):
        for call, more in self.CALLS:
            for x in NO_PROGRAMS:
                self.assertIs(caught(BadProgram, call, x, SAME, *more), x)
                self.assertIs(caught(BadProgram, call, SAME, x, *more), x)
                self.assertIs(caught(BadProgram, call, x, [x], *more), x)
                self.assertIs(caught(BadProgram, call, LEAST, x, *more), x)

    def test_unlike_ones(self):
        body = SAME[2]
        unlike = ((INS[::-1], (), body, ("c",)), (INS, (("a", "b"),), body, ("c",)), (BOTH, (), body, ("c",)),
                  (INS + (("z", U),), (), body, ("c",)), (INS[:1], (), body, ("c",)), (INS, (), body, ("c", "c")),
                  ((("a", U), ("d", U)), (), body, ("c",)), ((("a", U), ("b", ("up", 2))), (), body, ("c",)))
        for call, more in self.CALLS:
            for other in unlike:
                self.assertIs(caught(Unlike, call, SAME, other, *more), other)
                self.assertIs(caught(Unlike, call, other, SAME, *more), SAME)
        with_facts = (INS, (("a", "b"),), body, ("c",)), (INS, (("b", "a"),), body, ("c",))
        self.assertEqual(caught(Unlike, does_refine, *with_facts), with_facts[1])

    def test_functions_are_defined_there(self):
        for name in ("checks_of", "does_refine", "judge_refines", "refines_holds", "judge_alike", "alike_holds"):
            self.assertEqual(getattr(module, name).__module__, "tripmeans.refining")


if __name__ == "__main__":
    unittest.main()
