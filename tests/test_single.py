"""Part 4: single programs, which of them never trip more than others, and signed means."""

import random
import unittest

from support import ANY_VALUES, caught, changed_once, most_digits
from tripmeans import single as module
from tripmeans.errors import BadForms, BadProgram, NotRoomy, NotSingle, Unlike
from tripmeans.single import (forms_of, is_single, judge_mean, judge_never_more, mean_holds, never_more_holds,
                              plain_room)
from tripmeans.walls import plain_borders
from tripmeans.ways import room_borders
from words import all_given, changed_program, is_mean_paper, is_never_more_paper, room, total, walked, ways

K, U = ("both", 1), ("up", 1)
K2, K3 = ("both", 2), ("both", 3)
INS = (("a", K), ("b", K), ("c", K))
LEFT = (INS, (), (("plus", "d", K, "a", "b"), ("plus", "e", K, "d", "c")), ("e",))
RIGHT = (INS, (), (("plus", "d", K, "b", "c"), ("plus", "e", K, "a", "d")), ("e",))
SUM = (INS[:2], (), (("plus", "d", K, "a", "b"), ("minus", "e", K3, "d", "b")), ("e",))
NOT_SINGLE = [(INS, (), body, ("a",)) for body in (
    (("least", "d", K, "a", "b"),), (("greatest", "d", K, "a", "b"),), (("if", "a", "b", (), ()),),
    (*LEFT[2], ("least", "f", K, "a", "a")), (("if", "a", "b", (), ()), *LEFT[2]),
    (("if", "a", "b", (("plus", "d", K, "a", "b"),), (("plus", "d", K, "a", "b"),)),))]
NO_PROGRAMS = (*ANY_VALUES, list(LEFT), LEFT[:3], (INS, (), LEFT[2], ("x",)))
HELD = (((1, 1), 1), ((1, 0), 1))


def single(seed, wide=2, far=3, ins=3, most=6):
    """A single program made at will, with kinds, factors and numbers up to these."""
    rand = random.Random(seed)
    known = {"abcdef"[k]: (rand.choice(("both", "up")), rand.randint(1, wide)) for k in range(rand.randint(1, ins))}
    inputs = tuple(known.items())
    pairs = [(one, other) for one in sorted(known) for other in sorted(known) if one != other]
    facts = tuple(sorted(rand.sample(pairs, min(len(pairs), rand.choice((0, 0, 1, 2))))))
    body = []
    for k in range(rand.randint(0, most)):
        word = rand.choice(("plus", "plus", "minus", "minus", "times"))
        one = rand.randint(-far, far) if word == "times" else rand.choice(sorted(known))
        kind = (rand.choice(("both", "both", "up")), rand.randint(1, wide))
        body.append((word, "x" + chr(97 + k), kind, one, rand.choice(sorted(known))))
        known["x" + chr(97 + k)] = kind
    return (inputs, facts, tuple(body), (rand.choice(sorted(known)),))


class Singles(unittest.TestCase):
    def test_is_single(self):
        for program in (LEFT, RIGHT, SUM, (INS, (), (), ("a",)), (INS, (), (("times", "d", K, 0, "a"),), ("a",))):
            self.assertIs(is_single(program), True)
        for program in NOT_SINGLE:
            self.assertIs(is_single(program), False)

    def test_forms(self):
        self.assertEqual(forms_of(LEFT), ((1, 1, 0), (1, 1, 1)))
        self.assertEqual(forms_of(SUM), ((1, 1), (1, 0)))
        self.assertEqual(forms_of((INS, (), (), ("a",))), ())
        body = (("minus", "d", K, "a", "a"), ("times", "e", K, -12, "c"), ("times", "f", K, 0, "e"),
                ("minus", "g", K, "f", "e"), ("plus", "h", K, "g", "g"))
        self.assertEqual(forms_of((INS, (), body, ("a", "a"))),
                         ((0, 0, 0), (0, 0, -12), (0, 0, 0), (0, 0, 12), (0, 0, 24)))

    def test_forms_are_those_of_the_way(self):
        for seed in range(100):
            program = single(seed, 30, 12, 6, 16)
            (entries, _), = ways(program)
            self.assertEqual(forms_of(program), tuple(entry[2] for entry in entries))
            self.assertIs(is_single(program), True)

    def test_plain_room(self):
        self.assertEqual(plain_room(SUM), ((-1, -1, 1), (-1, 0, 1), (0, -1, 1), (0, 1, 1), (1, 0, 1), (1, 1, 1)))
        self.assertEqual(plain_room(LEFT), ((-1, -1, -1, 1), (-1, -1, 0, 1), (-1, 0, 0, 1), (0, -1, 0, 1),
                                            (0, 0, -1, 1), (0, 0, 1, 1), (0, 1, 0, 1), (1, 0, 0, 1), (1, 1, 0, 1),
                                            (1, 1, 1, 1)))
        ups = ((("a", ("up", 2)), ("b", ("up", 4))), (("a", "b"),), (("times", "c", ("up", 6), 2, "a"),), ("a",))
        self.assertEqual(plain_room(ups), ((-1, 0, 2), (-1, 1, 0), (0, -1, 4), (1, 0, 0)))
        less = (ups[0], (), (("times", "c", ("up", 6), 4, "a"), ("minus", "d", ("both", 9), "a", "a")), ("d",))
        self.assertEqual(plain_room(less), ((-2, 0, 3), (0, -1, 4), (0, 1, 0), (1, 0, 0)))

    def test_rooms_that_are_not_roomy(self):
        for ins, facts, body in (
                ((("a", U),), (), (("times", "b", U, -1, "a"),)),
                ((("a", U), ("b", U)), (("a", "b"), ("b", "a")), ()),
                ((("a", U), ("b", U)), (("a", "b"),), (("times", "c", U, -1, "b"),)),
                ((("a", K), ("b", K)), (), (("minus", "c", U, "a", "b"), ("minus", "d", U, "b", "a")))):
            program = (ins, facts, body, ("a",))
            self.assertIsNone(caught(NotRoomy, plain_room, program))
            self.assertIs(is_single(program), True)

    def test_plain_rooms_are_the_plain_walls_of_rooms(self):
        roomy = 0
        for seed in range(150):
            program = single(seed, 4, 4, 3, 6)
            walls, _ = room(program, ways(program)[0])
            try:
                found = plain_borders(len(program[0]) + 1, walls)
            except NotRoomy:
                self.assertIsNone(caught(NotRoomy, plain_room, program))
                continue
            roomy += 1
            self.assertEqual(plain_room(program), found)
            for bound in (1, 2):
                for given in all_given(program, bound):
                    ends = walked(program, bound, given)[1][0] == "ends"
                    self.assertEqual(all(total(wall, (*given, bound)) >= 0 for wall in found), ends)
        self.assertGreater(roomy, 40)

    def test_forms_of_zeros_in_a_room(self):
        program = (INS, (), (("minus", "d", U, "a", "a"), ("times", "e", K, 0, "b")), ("e",))
        self.assertEqual(plain_room(program), plain_room((INS, (), (), ("a",))))

    def test_wrong_inputs(self):
        for call in (is_single, forms_of, plain_room):
            for x in NO_PROGRAMS:
                self.assertIs(caught(BadProgram, call, x), x)
        for program in NOT_SINGLE:
            self.assertIsNone(caught(NotSingle, forms_of, program))
            self.assertIsNone(caught(NotSingle, plain_room, program))
        # Not single, and not roomy either.
        both = ((("a", U),), (), (("times", "b", U, -1, "a"), ("least", "c", U, "a", "b")), ("a",))
        self.assertIsNone(caught(NotSingle, plain_room, both))

    def test_functions_are_defined_there(self):
        for name in ("is_single", "forms_of", "plain_room", "judge_never_more", "never_more_holds", "judge_mean",
                     "mean_holds"):
            self.assertEqual(getattr(module, name).__module__, "tripmeans.single")


class NeverMore(unittest.TestCase):
    def judged(self, one, other):
        """The word of the paper that is returned, which is checked by the document's words."""
        paper = judge_never_more(one, other)
        self.assertTrue(is_never_more_paper(one, other, paper), (one, other, paper))
        self.assertIs(never_more_holds(one, other, paper), True)
        self.assertLessEqual(most_digits(paper), 60)
        return paper[0]

    def test_the_examples(self):
        self.assertEqual(judge_never_more(LEFT, LEFT)[0], "weights")
        self.assertEqual(judge_never_more(LEFT, RIGHT)[0], "trips")
        self.assertIs(never_more_holds(LEFT, RIGHT, ("trips", 1, (-1, 1, 1))), True)

    def test_by_hand(self):
        ups = (("a", U), ("b", U))
        plus = ("plus", "c", K, "a", "b")
        for ins, facts, one, other, word in (
                # Of two that are from 0 on the difference fits; of any two it need not.
                (ups, (), (), (("minus", "c", K, "a", "b"),), "weights"),
                (INS[:2], (), (), (("minus", "c", K, "a", "b"),), "trips"),
                (INS[:2], (), (), (("minus", "c", K2, "a", "b"),), "weights"),
                (ups, (), (), (("minus", "c", U, "b", "a"),), "trips"),
                (ups, (("a", "b"),), (), (("minus", "c", U, "b", "a"),), "weights"),
                (ups, (("a", "b"),), (), (("minus", "c", U, "a", "b"),), "trips"),
                (ups, (("a", "b"), ("b", "a")), (), (("minus", "c", U, "a", "b"),), "weights"),
                # 2 a is the sum of a + b and a - b: each of them within B, it is within 2 B, and no less.
                (INS[:2], (), (plus, ("minus", "d", K, "a", "b")), (("times", "d", K2, 2, "a"),), "weights"),
                (INS[:2], (), (plus, ("minus", "d", ("both", 4), "a", "b")), (("times", "d", K, 2, "a"),), "trips"),
                (INS[:2], (), (plus,), (("plus", "c", K, "b", "a"),), "weights"),
                (INS[:2], (), (plus,), (("plus", "c", U, "b", "a"),), "trips"),
                (INS[:2], (), (("plus", "c", U, "b", "a"),), (plus,), "weights"),
                (INS[:2], (), (plus,), (("plus", "c", K2, "b", "a"),), "weights"),
                (INS[:2], (), (("plus", "c", ("both", 5), "b", "a"),), (plus,), "trips"),
                (INS[:2], (), (plus,), (), "weights"), (INS[:2], (), (), (), "weights"),
                (INS[:2], (), (), (("minus", "c", U, "a", "a"),), "weights"),
                # In a room that is only a point all fits.
                (ups, (), (("plus", "c", U, "a", "b"), ("times", "d", U, -1, "c")), (("times", "c", K, 12, "a"),
                                                                                     ("times", "d", U, -12, "b")),
                 "weights")):
            pair = (ins, facts, one, ("a",)), (ins, facts, other, ("b", "a"))
            self.assertEqual(self.judged(*pair), word, pair)

    def test_one_paper_for_each_wall(self):
        for one, other in ((LEFT, LEFT), (SUM, SUM), (LEFT, (INS, (), (), ("a",)))):
            paper = judge_never_more(one, other)
            self.assertEqual(len(paper[1]), 2 * len(other[2]))
            for m, ws, ss, b in paper[1]:
                self.assertEqual((len(ws), ss), (len(room_borders(one, 0)[0]), ()))
        self.assertEqual(judge_never_more(LEFT, (INS, (), (), ("a",))), ("weights", ()))

    def test_at_many_bounds_and_inputs(self):
        rand = random.Random(81)
        words = []
        for seed in range(400):
            one = single(seed, 3, 3, 3, 5)
            other = one
            for _ in range(rand.randint(1, 3)):
                other = changed_program(rand, other, ("plus", "minus", "times"))
            words.append(self.judged(one, other))
            if words[-1] == "weights":
                for bound in (1, 2, 3):
                    for given in all_given(one, bound)[::3]:
                        ends = [walked(program, bound, given)[1][0] == "ends" for program in (one, other)]
                        self.assertIn(ends, ([True, True], [False, True], [False, False]))
        self.assertGreater(words.count("weights"), 60)
        self.assertGreater(words.count("trips"), 60)

    def test_equal_plain_walls_are_never_more_both_ways(self):
        rand = random.Random(82)
        alike = unlike = 0
        for seed in range(150):
            one = single(seed, 3, 3, 2, 4)
            other = changed_program(rand, one, ("plus", "minus"))
            try:
                same = plain_room(one) == plain_room(other)
            except NotRoomy:
                continue
            both = judge_never_more(one, other)[0] == judge_never_more(other, one)[0] == "weights"
            self.assertEqual(same, both)
            alike, unlike = alike + same, unlike + (not same)
        self.assertGreater(alike, 20)
        self.assertGreater(unlike, 20)

    def test_never_more_is_a_signed_mean_for_each_value(self):
        rand = random.Random(83)
        words = []
        for _ in range(60):
            names = ["a", "b", "c"]
            bodies = []
            for many in (5, 2):
                known, body = list(names), []
                for k in range(many):
                    name = "defgh"[k]
                    body.append((rand.choice(("plus", "minus")), name, ("both", rand.randint(1, 3)),
                                 rand.choice(known), rand.choice(known)))
                    known.append(name)
                bodies.append(tuple(body))
            one, other = ((INS, (), body, ("a",)) for body in bodies)
            held = [(f, 1) for f in ((1, 0, 0), (0, 1, 0), (0, 0, 1))]
            held += [(form, item[2][1]) for form, item in zip(forms_of(one), one[2])]
            means = [judge_mean(tuple(held), (form, item[2][1]))[0] for form, item in zip(forms_of(other), other[2])]
            words.append(self.judged(one, other))
            self.assertEqual(words[-1] == "weights", means == ["mean", "mean"])
        self.assertGreater(words.count("weights"), 5)
        self.assertGreater(words.count("trips"), 5)

    def test_at_the_limits(self):
        ins = tuple((name, (("both", "up")[k % 2], k + 1)) for k, name in enumerate("abcdef"))
        facts = (("a", "b"), ("b", "d"), ("c", "d"), ("c", "f"), ("d", "f"), ("e", "f"))
        for far in (2, 12):
            known, body = [name for name, _ in ins], []
            for k in range(16):
                word = ("plus", "minus", "times")[k % 3]
                one = (far, -far)[k % 2] if word == "times" else known[-1 - k % 5]
                body.append((word, "x" + chr(97 + k), (("both", "up")[k % 4 == 3], 30 - k % 3), one, known[-1 - k % 4]))
                known.append("x" + chr(97 + k))
            self.assertLessEqual(max(abs(x) for form in forms_of((ins, facts, tuple(body), ("a",))) for x in form),
                                 10 ** 5)
            wider = tuple((word, name, ("both", 30), *right) for word, name, _, *right in body)
            one, other = (ins, facts, tuple(body), ("a",)), (ins, facts, wider, ("a",))
            self.assertEqual(self.judged(one, other), "weights")
            self.assertEqual(self.judged(other, one), "trips")
            try:
                self.assertEqual(plain_room(one), plain_borders(7, room_borders(one, 0)[0]))
            except NotRoomy:
                self.assertIsNone(caught(NotRoomy, plain_borders, 7, room_borders(one, 0)[0]))

    def test_nearly_right_papers(self):
        rights = 0
        for one, other in ((SUM, SUM), (SUM, (SUM[0], (), SUM[2][:1], ("a",))), (LEFT, RIGHT), (RIGHT, LEFT),
                           ((INS[:2], (), (), ("a",)), SUM)):
            for thing in changed_once(judge_never_more(one, other)):
                found = never_more_holds(one, other, thing)
                self.assertIs(found, is_never_more_paper(one, other, thing), thing)
                rights += found
        self.assertGreater(rights, 0)

    def test_trips_that_are_told(self):
        for bound, inputs, right in ((1, (-1, 1, 1), True), (2, (-2, 2, 2), True), (2, (-1, 2, 1), True),
                                     (2, (-1, 1, 1), False), (1, (1, 1, -1), False), (1, (1, 1, 1), False),
                                     (1, (-1, 1, 2), False), (0, (-1, 1, 1), False), (-1, (-1, 1, 1), False),
                                     (True, (-1, 1, 1), False), (1, [-1, 1, 1], False), (1, (-1, True, 1), False),
                                     (1, (-1, 1), False), (1, (-1, 1, 1, 1), False), ("1", (-1, 1, 1), False),
                                     (10 ** 60, (-10 ** 60, 10 ** 60, 1), True), (1, (0, 0, 0), False)):
            self.assertIs(never_more_holds(LEFT, RIGHT, ("trips", bound, inputs)), right, (bound, inputs))
        facts = (INS, (("a", "b"),))
        pair = (*facts, LEFT[2], ("a",)), (*facts, RIGHT[2], ("a",))
        self.assertIs(never_more_holds(*pair, ("trips", 1, (-1, 1, 1))), True)
        back = (INS, (("b", "a"),))
        self.assertIs(never_more_holds((*back, *LEFT[2:]), (*back, *RIGHT[2:]), ("trips", 1, (-1, 1, 1))), False)
        for thing in (("trips", 1, (-1, 1, 1), 0), ("trips", 1), ["trips", 1, (-1, 1, 1)], ("parts", 1, (-1, 1, 1)),
                      ("weights", 1, (-1, 1, 1))):
            self.assertIs(never_more_holds(LEFT, RIGHT, thing), False)

    def test_any_value_is_no_paper(self):
        papers = judge_never_more(SUM, SUM)[1]
        for x in ANY_VALUES:
            self.assertIs(never_more_holds(SUM, SUM, x), False)
            self.assertIs(never_more_holds(SUM, SUM, ("weights", x)), False)
            self.assertIs(never_more_holds(SUM, SUM, ("weights", papers, x)), False)
            self.assertIs(never_more_holds(SUM, SUM, ("weights", (x, *papers[1:]))), False)
            self.assertIs(never_more_holds(LEFT, RIGHT, ("trips", x, (-1, 1, 1))), x == 1 and type(x) is int)
            self.assertIs(never_more_holds(LEFT, RIGHT, ("trips", 1, x)), False)

    def test_wrong_inputs(self):
        calls = ((judge_never_more, ()), (never_more_holds, (None,)))
        unlike = ((INS[::-1], (), LEFT[2], ("e",)), (INS, (("a", "b"),), LEFT[2], ("e",)),
                  ((("a", K), ("b", K), ("c", U)), (), LEFT[2], ("e",)), (INS + (("z", K),), (), LEFT[2], ("e",)), SUM)
        for call, more in calls:
            for x in NO_PROGRAMS:
                self.assertIs(caught(BadProgram, call, x, [x], *more), x)
                for one in (LEFT, *NOT_SINGLE):
                    self.assertIs(caught(BadProgram, call, one, x, *more), x)
                    self.assertIs(caught(BadProgram, call, x, one, *more), x)
            for program in NOT_SINGLE:
                for pair in ((LEFT, program), (program, LEFT), (SUM, program), (program, SUM), (program, program)):
                    self.assertIsNone(caught(NotSingle, call, *pair, *more))
            for other in unlike:
                self.assertIs(caught(Unlike, call, LEFT, other, *more), other)
                self.assertIs(caught(Unlike, call, other, LEFT, *more), LEFT)
        # Other outs are nothing against it.
        self.assertEqual(judge_never_more(LEFT, (*LEFT[:3], ("a", "d")))[0], "weights")


class Means(unittest.TestCase):
    def judged(self, held, item):
        paper = judge_mean(held, item)
        self.assertTrue(is_mean_paper(held, item, paper), (held, item, paper))
        self.assertIs(mean_holds(held, item, paper), True)
        self.assertLessEqual(most_digits(paper), 60)
        return paper[0]

    def test_the_examples(self):
        self.assertEqual(judge_mean(HELD, ((0, 1), 1))[0], "point")
        self.assertIs(mean_holds(HELD, ((0, 1), 2), ("mean", 1, (1, -1))), True)
        self.assertIs(mean_holds((((1, 1), 1), ((1, -1), 1)), ((1, 0), 1), ("mean", 2, (1, 1))), True)

    def test_by_hand(self):
        sums = (((1, 1), 1), ((1, -1), 1))
        for held, item, word in (
                (HELD, ((0, 1), 2), "mean"), (HELD, ((0, 1), 1), "point"), (HELD, ((1, 1), 1), "mean"),
                (HELD, ((-1, -1), 1), "mean"), (HELD, ((2, 1), 2), "mean"), (HELD, ((2, 1), 1), "point"),
                (HELD, ((2, 2), 2), "mean"), (HELD, ((2, 2), 1), "point"), (HELD, ((1, 1), 30), "mean"),
                (sums, ((1, 0), 1), "mean"), (sums, ((3, 1), 3), "mean"), (sums, ((3, 1), 2), "point"),
                # Forms of zeros: they say nothing, and hold always.
                ((((0, 0), 1),), ((0, 0), 1), "mean"), ((((0, 0), 30),), ((0, 1), 30), "point"),
                ((((1,), 1),), ((0,), 1), "mean"), ((((1,), 2),), ((1,), 1), "point"),
                ((((1,), 1),), ((1,), 2), "mean"),
                ((((2,), 30),), ((1,), 15), "mean"), ((((2,), 30),), ((1,), 14), "point"),
                ((((3,), 2), ((5,), 3)), ((15,), 9), "mean"), ((((3,), 2), ((5,), 3)), ((15,), 8), "point"),
                # Nothing is said of the last input.
                ((((1, 0, 0), 1), ((0, 1, 0), 1)), ((0, 0, 1), 30), "point"),
                ((((1, 2, 3, 4, 5, 6), 7),), ((-2, -4, -6, -8, -10, -12), 14), "mean"),
                ((((10 ** 5, 1), 1), ((1, 10 ** 5), 1)), ((1, 1), 1), "mean"),
                ((((10 ** 5, 1), 1), ((1, -10 ** 5), 1)), ((10 ** 5, 10 ** 5), 1), "point")):
            self.assertEqual(self.judged(held, item), word, (held, item))

    def test_made_at_will(self):
        rand = random.Random(84)
        words = []
        for _ in range(400):
            n, far = rand.randint(1, 6), rand.choice((1, 2, 9, 10 ** 5))
            held = tuple((tuple(rand.randint(-far, far) for _ in range(n)), rand.randint(1, rand.choice((1, 3, 30))))
                         for _ in range(rand.choice((1, 3, 6, 12, 30))))
            item = (tuple(rand.randint(-far, far) for _ in range(n)), rand.randint(1, 30))
            if rand.randrange(2):
                some = rand.sample(held, min(len(held), 2))
                item = (tuple(sum(xs) for xs in zip(*[f for f, _ in some])),
                        max(1, min(30, sum(k for _, k in some) - rand.randrange(2))))
            words.append(self.judged(held, item))
        self.assertGreater(words.count("mean"), 100)
        self.assertGreater(words.count("point"), 100)

    def test_at_the_limits(self):
        rand = random.Random(85)
        far = 10 ** 5
        for _ in range(20):
            held = tuple((tuple(rand.choice((far, -far, far - 1, 1 - far, 1)) for _ in range(6)), rand.randint(1, 30))
                         for _ in range(30))
            for form in ((1, 0, 0, 0, 0, 0), held[0][0], (far,) * 6):
                for k in (1, 30):
                    self.judged(held, (form, k))

    def test_nearly_right_papers(self):
        rights = 0
        for held, item in ((HELD, ((0, 1), 2)), (HELD, ((0, 1), 1)), (HELD, ((0, 1), 3)), ((((1,), 2),), ((1,), 1)),
                           ((((1, 1), 1), ((1, -1), 1)), ((1, 0), 1))):
            for thing in changed_once(judge_mean(held, item)):
                found = mean_holds(held, item, thing)
                self.assertIs(found, is_mean_paper(held, item, thing), thing)
                rights += found
        self.assertGreater(rights, 0)

    def test_papers(self):
        item = ((0, 1), 2)
        for paper, right in ((("mean", 1, (1, -1)), True), (("mean", 2, (2, -2)), True), (("mean", 3, (3, -3)), True),
                             (("mean", 2, (1, -1)), False), (("mean", 0, (0, 0)), False),
                             (("mean", -1, (-1, 1)), False), (("mean", True, (1, -1)), False),
                             (("mean", 1, (True, -1)), False), (("mean", 1, [1, -1]), False),
                             (("mean", 1, (1, -1, 0)), False), (("mean", 1, (1,)), False),
                             (("mean", 1, (-1, 1)), False), (("mean", 1, (1, -1), 0), False), (("mean", 1), False),
                             (["mean", 1, (1, -1)], False), (("weights", 1, (1, -1)), False),
                             (("point", 1, (1, -1)), False), (("mean", 10 ** 70, (10 ** 70, -10 ** 70)), True)):
            self.assertIs(mean_holds(HELD, item, paper), right, paper)
        # A third form is left out, or comes with a weight that goes off against others: then it weighs too much.
        more = (*HELD, ((2, 1), 1))
        self.assertIs(mean_holds(more, item, ("mean", 1, (1, -1, 0))), True)
        self.assertIs(mean_holds(more, item, ("mean", 1, (0, -2, 1))), False)
        self.assertIs(mean_holds(more, ((0, 1), 3), ("mean", 1, (0, -2, 1))), True)
        self.assertIs(mean_holds(HELD, ((0, 1), 1), ("mean", 1, (1, -1))), False)

    def test_points(self):
        item = ((0, 1), 1)
        for bound, inputs, right in ((1, (-1, 2), True), (1, (1, -2), True), (5, (-3, 8), True), (5, (-1, 6), True),
                                     (5, (0, 5), False), (1, (-1, 3), False), (1, (-2, 2), False), (1, (0, 1), False),
                                     (0, (0, 0), False), (-1, (-1, 2), False), (True, (-1, 2), False),
                                     (1, [-1, 2], False), (1, (-1, 2, 0), False), (1, (-1,), False),
                                     (1, (True, -2), False), (10 ** 60, (-1, 10 ** 60 + 1), True)):
            self.assertIs(mean_holds(HELD, item, ("point", bound, inputs)), right, (bound, inputs))
        for thing in (("point", 1, (-1, 2), 0), ("point", (-1, 2, 1)), ["point", 1, (-1, 2)], ("trips", 1, (-1, 2))):
            self.assertIs(mean_holds(HELD, item, thing), False)

    def test_any_value_is_no_paper(self):
        for x in ANY_VALUES:
            self.assertIs(mean_holds(HELD, ((0, 1), 2), x), False)
            self.assertIs(mean_holds(HELD, ((0, 1), 2), ("mean", x, (1, -1))), x == 1 and type(x) is int)
            self.assertIs(mean_holds(HELD, ((0, 1), 2), ("mean", 1, x)), False)
            self.assertIs(mean_holds(HELD, ((0, 1), 1), ("point", x, (-1, 2))), x == 1 and type(x) is int)
            self.assertIs(mean_holds(HELD, ((0, 1), 1), ("point", 1, x)), False)

    def test_wrong_held_forms(self):
        pair = ((1, 1), 1)
        wrong = [x for x in ANY_VALUES] + [
            list(HELD), (list(pair),), ([1, 1], 1), (pair, ((1, 1), 0)), (pair, ((1, 1), 31)), (pair, ((1, 1), True)),
            (pair, ((1,), 1)), (pair, ((1, 1, 1), 1)), (pair, ((1, True), 1)), (pair, ((1, "1"), 1)), (((), 1),),
            (((1,) * 7, 1),), (pair,) * 31, (pair, ((1, 1), 1, 1)), (pair, ((1, 1),)), (pair, ([1, 1], 1)), pair,
            (pair, None), (None, pair), (((1, 1), "1"),)]
        for call, more in ((judge_mean, ()), (mean_holds, (None,))):
            for x in wrong:
                self.assertIs(caught(BadForms, call, x, pair, *more), x)
                self.assertIs(caught(BadForms, call, x, [x], *more), x)
        for n in range(1, 7):
            for many in (1, 30):
                self.assertEqual(judge_mean((((1,) * n, 30),) * many, ((1,) * n, 30))[0], "mean")

    def test_wrong_items(self):
        wrong = [x for x in ANY_VALUES] + [
            ((1,), 1), ((1, 1, 1), 1), ((), 1), ((1, 1), 0), ((1, 1), 31), ((1, 1), True), ((1, True), 1),
            ([1, 1], 1), [(1, 1), 1], ((1, 1), 1, 1), ((1, 1),), (((1, 1), 1),), ((1, "1"), 1), ((1, None), 1)]
        for call, more in ((judge_mean, ()), (mean_holds, (None,))):
            for x in wrong:
                self.assertIs(caught(BadForms, call, HELD, x, *more), x)


if __name__ == "__main__":
    unittest.main()
