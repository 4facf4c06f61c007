"""Part 10: rounds, kept bounds, coupled rounds, unrolled rounds, and their papers."""

import itertools
import random
import unittest

from later_words import (coupled_inputs, does_fit, done, is_coupled_paper, is_kept_paper, is_lost, items_of, keep,
                         states_of)
from support import ANY_VALUES, Maker, caught, changed_once, most_digits
from tripmeans import rounds as module
from tripmeans.errors import BadNumber, BadRounds, BadWalls, OtherItems, TooMany
from tripmeans.programs import is_program, statement_count
from tripmeans.rounds import (are_rounds, coupled_holds, judge_coupled, judge_kept, kept_holds, unrolled)
from words import all_given, changed_program, walked, ways

K, U = ("both", 1), ("up", 1)
K2, K3, U2 = ("both", 2), ("both", 3), ("up", 2)
SINK = (((("s", K2), ("x", K)), (), (("minus", "d", K3, "x", "s"),), ("d",)), 1)
HOLD = (((("s", K), ("x", K)), (), (("greatest", "m", K, "s", "x"),), ("m",)), 1)
# Between the sum and the item the lesser one is taken, which is the item.
CAPPED = (((("s", U), ("x", U)), (), (("plus", "t", U2, "s", "x"), ("minus", "r", K, "t", "s"),
                                     ("least", "m", U, "t", "x")), ("m",)), 1)
SAME = ((1, -1, 0), (-1, 1, 0))


def rounds(ins, body, outs, s=1, facts=()):
    found = ((ins, facts, tuple(body), outs), s)
    assert are_rounds(found), found
    return found


class Asked(unittest.TestCase):
    def kept(self, some, bounds):
        paper = judge_kept(some, bounds)
        self.assertTrue(is_kept_paper(some, bounds, paper), (some, bounds, paper))
        self.assertIs(kept_holds(some, bounds, paper), True)
        self.assertLessEqual(most_digits(paper), 60)
        return paper[0] == "kept"

    def coupled(self, one, other, couplings):
        paper = judge_coupled(one, other, couplings)
        self.assertTrue(is_coupled_paper(one, other, couplings, paper), (one, other, couplings, paper))
        self.assertIs(coupled_holds(one, other, couplings, paper), True)
        self.assertLessEqual(most_digits(paper), 60)
        return paper[0] == "coupled"


class Rounds(unittest.TestCase):
    def test_are_rounds(self):
        body = HOLD[0]
        three = ((("a", K), ("b", K), ("c", U), ("d", U)), (("c", "d"),), (), ("b", "a", "c"))
        for thing, right in ((HOLD, True), (SINK, True), ((body, 2), False), ((body, 0), False), ((body, True), False),
                             ((body, "1"), False), (list(HOLD), False), ((body,), False), ((body, 1, 1), False),
                             ((list(body), 1), False), ((None, 1), False), (((*body[:3], ("m", "m")), 1), False),
                             (((*body[:3], ("m", "m")), 2), True), (((*body[:3], ("m",) * 3), 3), False),
                             ((three, 3), False), ((three, 2), False), (((*three[:3], ("b", "a")), 2), True),
                             (((*three[:3], ("c",)), 1), True), (((three[0], (), *three[2:]), 3), True),
                             (((three[0], (("a", "b"),), (), ("a",)), 1), False),
                             (((three[0], (("b", "a"),), (), ("a",)), 1), False),
                             (((three[0], (("b", "c"),), (), ("a", "b")), 2), False),
                             (((three[0], (), (), ("a",) * 4), 4), False)):
            self.assertIs(are_rounds(thing), right, thing)
        for thing in ANY_VALUES:
            self.assertIs(are_rounds(thing), False)
            self.assertIs(are_rounds((body, thing)), thing == 1 and type(thing) is int)
            self.assertIs(are_rounds((thing, 1)), False)


class Kept(Asked):
    def test_the_examples(self):
        self.assertTrue(self.kept(HOLD, ()))
        self.assertFalse(self.kept(SINK, ()))
        self.assertIs(kept_holds(SINK, (), ("lost", 1, (-2, 1))), True)
        self.assertTrue(self.kept(HOLD, ((1, 0),)))

    def test_by_hand(self):
        # |s| at most B / 2 is lost by a sum with x, at most B / 2 is kept by halves that are not reckoned: by times 0.
        zero = rounds((("s", K2), ("x", K)), [("times", "d", K, 0, "s")], ("d",))
        self.assertTrue(self.kept(zero, ((1, 0), (-1, 0))))
        self.assertTrue(self.kept(zero, ((2, 1), (-2, 1))))
        self.assertFalse(self.kept(zero, ((1, -1),)))
        turn = rounds((("s", K2),), [("times", "d", K2, -1, "s")], ("d",))
        self.assertTrue(self.kept(turn, ((1, 1), (-1, 1))))
        self.assertFalse(self.kept(turn, ((1, 1),)))
        self.assertTrue(self.kept(turn, ()))
        # An out that does not fit its state's register, though the body's does.
        wide = rounds((("s", K), ("x", K)), [("plus", "d", K2, "s", "x")], ("d",))
        self.assertFalse(self.kept(wide, ()))
        self.assertIs(kept_holds(wide, (), ("lost", 1, (1, 1))), True)
        self.assertIs(kept_holds(wide, (), ("lost", 1, (0, 1))), False)
        self.assertTrue(self.kept(CAPPED, ()))
        for last, right in ((("least", "m", U, "t", "r"), True), (("greatest", "m", U, "t", "x"), False),
                            (("greatest", "m", U2, "t", "x"), False), (("least", "m", U, "t", "s"), True)):
            some = rounds(CAPPED[0][0], [*CAPPED[0][2][:2], last], ("m",))
            self.assertEqual(self.kept(some, ()), right)
        # An out that is an input: a state, or an item.
        for out, bounds, right in (("s", ((1, 0), (3, -1)), True), ("x", ((1, 0),), False), ("x", ((1, 1),), True)):
            self.assertEqual(self.kept(rounds((("s", K), ("x", K)), [], (out,)), bounds), right)

    def test_bounds_that_nothing_keeps(self):
        self.assertTrue(self.kept(SINK, ((0, -1),)))
        self.assertTrue(self.kept(SINK, ((1, -3),)))
        self.assertFalse(self.kept(SINK, ((0, 0), (0, 5))))

    def test_three_states(self):
        ins = (("p", U), ("q", U), ("r", U), ("x", U))
        body = [("least", "a", U, "p", "x"), ("greatest", "b", U, "r", "x")]
        some = rounds(ins, body, ("a", "q", "b"), 3)
        ordered = ((-1, 1, 0, 0), (0, -1, 1, 0))
        self.assertTrue(self.kept(some, ordered))
        self.assertTrue(self.kept(some, ordered[:1]))
        self.assertFalse(self.kept(rounds(ins, body, ("a", "q", "b")[::-1], 3), ordered))
        self.assertFalse(self.kept(some, (*ordered, (1, 0, 0, 0), (1, -1, 1, -1))))

    def test_facts_of_items(self):
        ins = (("s", U), ("y", U), ("x", U))
        body = [("minus", "d", U, "x", "y")]
        self.assertTrue(self.kept(rounds(ins, body, ("d",), facts=(("y", "x"),)), ()))
        self.assertFalse(self.kept(rounds(ins, body, ("d",), facts=(("x", "y"),)), ()))
        self.assertFalse(self.kept(rounds(ins, body, ("d",)), ()))

    def test_choices(self):
        # Counts up as long as there is room.
        ins = (("s", U2), ("x", U))
        body = [("plus", "t", ("up", 4), "s", "x"), ("plus", "l", U2, "x", "x"),
                ("if", "s", "x", [("plus", "m", U2, "s", "x")], [("times", "m", U2, 1, "s")])]
        body[2] = (*body[2][:3], tuple(body[2][3]), tuple(body[2][4]))
        some = rounds(ins, body, ("m",))
        self.assertTrue(self.kept(some, ()))
        self.assertTrue(self.kept(some, ((-1, 2), (1, 0))))
        self.assertFalse(self.kept(some, ((-1, 1),)))

    def test_made_at_will(self):
        rand = random.Random(101)
        answers = []
        for seed in range(250):
            some = at_will(rand, seed)
            if some is None:
                continue
            bounds = bounds_at_will(rand, some[1] + 1)
            answers.append(self.kept(some, bounds))
            if answers[-1]:
                self.holds_at_points(some, bounds)
        self.assertGreater(min(answers.count(True), answers.count(False)), 30)

    def holds_at_points(self, some, bounds):
        s = some[1]
        for bound in (1, 2):
            for given in all_given(some[0], bound)[::3]:
                if keep(bounds, given[:s], bound):
                    outs = done(some, bound, given)
                    self.assertIsNotNone(outs)
                    self.assertTrue(keep(bounds, outs, bound))

    def test_nearly_right_papers(self):
        refused = 0
        for some, bounds in ((HOLD, ((1, 0),)), (SINK, ()), (SINK, ((1, 0),)), (HOLD, ((1, 0), (-1, 1)))):
            paper = judge_kept(some, bounds)
            for thing in changed_once(paper):
                right = is_kept_paper(some, bounds, thing)
                self.assertIs(kept_holds(some, bounds, thing), right)
                refused += not right
            for thing in (*ANY_VALUES, ("kept",), ("kept", ()), ("kept", None), ("lost", 1, None), (["kept"], ()),
                          ("lost", None, (1, 1)), ("coupled", paper[1])):
                self.assertIs(kept_holds(some, bounds, thing), False)
        self.assertGreater(refused, 1000)

    def test_points(self):
        for bounds, thing, right in (
                ((), (1, (-2, 1)), True), ((), (1, (-1, 1)), False), ((), (1, (-3, 1)), False), ((), (1, (-2, 2)), False),
                ((), (10 ** 55, (-2 * 10 ** 55, 1)), True), (((1, 0),), (1, (-2, 1)), False),
                (((1, 0),), (1, (2, 1)), True), (((1, 0),), (1, (1, 1)), False), (((-1, 0),), (1, (-1, 1)), True),
                ((), (1, (-2,)), False), ((), (1, (-2, 1, 0)), False), ((), (0, (0, 0)), False), ((), (True, (-2, 1)), False),
                ((), (1, [-2, 1]), False), ((), (1, (-2, True)), False)):
            self.assertIs(kept_holds(SINK, bounds, ("lost", *thing)), right, (bounds, thing))


def at_will(rand, seed, **more):
    """Rounds with few ways; None if there are too many."""
    body = Maker(seed, **{"wide": 2, "far": 2, "ins": 3, "most": 4, **more}).program()
    s = rand.randint(1, min(2, len(body[0])))
    states = [name for name, _ in body[0][:s]]
    facts = tuple(fact for fact in body[1] if not set(fact) & set(states))
    known = [name for name, _ in body[0]] + [item[1] for item in body[2] if item[0] != "if"]
    wide = tuple((word, name, ("both", 9), *right) if word != "if" and rand.randrange(2) else (word, name, kind, *right)
                 for word, name, kind, *right in body[2])
    body = (body[0], facts, wide, tuple(rand.choice(known) for _ in range(s)))
    return (body, s) if is_program(body) and len(ways(body, 4)) <= 4 else None


def bounds_at_will(rand, width):
    return tuple(tuple(rand.randint(-1, 1) for _ in range(width - 1)) + (rand.randint(0, 2),)
                 for _ in range(rand.choice((0, 1, 1, 2))))


class Coupled(Asked):
    def test_the_example(self):
        self.assertTrue(self.coupled(HOLD, HOLD, SAME))
        self.assertTrue(self.coupled(HOLD, HOLD, SAME[:1] + ((0, 1, 0),)))
        self.assertFalse(self.coupled(HOLD, HOLD, SAME[:1] + ((0, -1, 0),)))

    def test_by_hand(self):
        # Wider registers trip no earlier, if the states are the same; narrower ones do.
        near = rounds((("s", K), ("x", K)), [("plus", "d", K, "s", "x")], ("d",))
        far = rounds((("t", K2), ("y", K)), [("plus", "e", K2, "y", "t")], ("e",))
        self.assertTrue(self.coupled(near, far, SAME))
        self.assertFalse(self.coupled(far, near, SAME))
        self.assertFalse(self.coupled(near, far, ()))
        self.assertFalse(self.coupled(near, far, SAME[:1]))
        self.assertTrue(self.coupled(near, near, SAME))
        # The second one's out does not fit its state, where the first one ends.
        narrow = rounds((("t", K), ("y", K)), [("plus", "e", K2, "y", "t")], ("e",))
        self.assertTrue(self.coupled(near, narrow, SAME))
        self.assertTrue(self.coupled(narrow, near, SAME))
        self.assertFalse(self.coupled(far, narrow, SAME))
        # Where the first ones trip nothing is asked: and their outs count as registers.
        self.assertTrue(self.coupled(rounds((("s", K), ("x", K)), [("plus", "d", K3, "s", "x")], ("d",)), near, SAME))

    def test_other_couplings(self):
        # The sum of two states of the first ones is the state of the second ones.
        near = rounds((("p", U), ("q", U), ("x", U)), [("least", "a", U, "p", "x"), ("plus", "b", U, "q", "x")],
                      ("p", "b"), 2)
        far = rounds((("s", U2), ("x", U)), [("plus", "d", U2, "s", "x")], ("d",))
        sums = ((1, 1, -1, 0), (-1, -1, 1, 0))
        self.assertTrue(self.coupled(near, far, sums))
        self.assertTrue(self.coupled(near, far, sums[:1]))
        self.assertFalse(self.coupled(near, far, sums[1:]))
        self.assertTrue(self.coupled(near, far, sums[:1] + ((0, 1, -1, 1),)))
        self.assertFalse(self.coupled(near, far, sums[:1] + ((0, -2, 0, 1),)))
        self.assertFalse(self.coupled(far, near, ((1, -1, -1, 0), (-1, 1, 1, 0))))
        # With room to spare, as the bound tells.
        self.assertTrue(self.coupled(HOLD, HOLD, ((1, -1, 1), (-1, 1, 1))))
        self.assertTrue(self.coupled(HOLD, HOLD, ((1, -1, 0),)))

    def test_names_and_orders_of_items(self):
        kinds = (("s", U), ("z", U), ("y", U), ("x", U))
        near = rounds(kinds, [("minus", "d", U, "y", "z")], ("d",), facts=(("x", "z"), ("z", "y")))
        far = rounds((("s", U), ("a", U), ("b", U), ("c", U)), [("minus", "s" + "t", U, "b", "a")], ("st",),
                     facts=(("a", "b"), ("c", "a")))
        self.assertTrue(self.coupled(near, far, SAME))
        self.assertTrue(self.coupled(far, near, SAME))
        without = rounds((("s", U), ("a", U), ("b", U), ("c", U)), far[0][2], ("st",), facts=(("a", "b"),))
        self.assertIsNone(caught(OtherItems, judge_coupled, near, without, None))
        # A name that is a state of one and an item of the other one.
        turned = rounds((("x", U), ("s", U)), [("least", "m", U, "x", "s")], ("m",))
        plain = rounds((("s", U), ("x", U)), [("least", "m", U, "x", "s")], ("m",))
        self.assertTrue(self.coupled(turned, plain, SAME))

    def test_ways(self):
        chosen = rounds((("s", K), ("x", K)), [("if", "s", "x", (("times", "m", K, 1, "x"),), (("times", "m", K, 1, "s"),))],
                        ("m",))
        self.assertTrue(self.coupled(HOLD, chosen, SAME))
        self.assertTrue(self.coupled(chosen, HOLD, SAME))
        least = rounds((("s", K), ("x", K)), [("least", "m", K, "s", "x")], ("m",))
        self.assertFalse(self.coupled(HOLD, least, SAME))
        self.assertTrue(self.coupled(HOLD, least, ((1, -1, 0),)))
        self.assertFalse(self.coupled(HOLD, least, ((-1, 1, 0),)))

    def test_without_items(self):
        near = rounds((("s", U),), [("plus", "d", U, "s", "s")], ("d",))
        far = rounds((("s", U2), ("t", U)), [("plus", "d", U2, "t", "t"), ("least", "e", U, "d", "s")], ("d", "e"), 2)
        self.assertTrue(self.coupled(near, near, SAME))
        self.assertFalse(self.coupled(near, far, ((1, -1, 0, 0), (-1, 1, 0, 0))))

    def test_made_at_will(self):
        rand = random.Random(102)
        answers = []
        for seed in range(300):
            one = at_will(rand, seed, most=3)
            if one is None or one[1] > 1 and rand.randrange(2):
                continue
            other = (changed_program(rand, one[0]), one[1])
            if not are_rounds(other) or len(ways(one[0])) * len(ways(other[0])) > 8:
                continue
            if rand.randrange(4):
                same = [tuple(int(k == at) - int(k == at + one[1]) for k in range(2 * one[1])) + (0,) for at in range(one[1])]
                couplings = tuple(same + [tuple(-x for x in wall) for wall in same])
            else:
                couplings = bounds_at_will(rand, 2 * one[1] + 1)
            answers.append(self.coupled(one, other, couplings))
            if answers[-1]:
                self.holds_at_points(rand, one, other, couplings)
        self.assertGreater(min(answers.count(True), answers.count(False)), 30)

    def holds_at_points(self, rand, one, other, couplings):
        s, t = one[1], other[1]
        for bound in (1, 2):
            kinds = [kind for _, kind in (*states_of(one), *states_of(other), *items_of(one))]
            points = list(itertools.product(*[range(-kind[1] * bound if kind[0] == "both" else 0, kind[1] * bound + 1)
                                              for kind in kinds]))
            for inputs in rand.sample(points, min(len(points), 150)):
                self.assertFalse(is_lost(one, other, couplings, bound, inputs))
                self.assertEqual(len(coupled_inputs(one, other, inputs)[0]), len(one[0][0]))
            self.assertTrue(does_fit(kinds[s + t - 1], bound, 0))

    def test_nearly_right_papers(self):
        refused = 0
        far = rounds((("t", K2), ("y", K)), [("plus", "e", K2, "y", "t")], ("e",))
        near = rounds((("s", K), ("x", K)), [("plus", "d", K, "s", "x")], ("d",))
        for one, other, couplings in ((near, far, SAME), (far, near, SAME), (near, far, ())):
            paper = judge_coupled(one, other, couplings)
            for thing in changed_once(paper):
                right = is_coupled_paper(one, other, couplings, thing)
                self.assertIs(coupled_holds(one, other, couplings, thing), right)
                refused += not right
            for thing in (*ANY_VALUES, ("coupled",), ("coupled", ()), ("coupled", None), ("lost", 1, None),
                          (["coupled"], ()), ("lost", None, (1, 1, 1)), ("kept", paper[1])):
                self.assertIs(coupled_holds(one, other, couplings, thing), False)
        self.assertGreater(refused, 700)

    def test_points(self):
        near = rounds((("s", K2), ("x", K)), [("plus", "d", K2, "s", "x")], ("d",))
        far = rounds((("t", K), ("x", K)), [("plus", "d", K, "x", "t")], ("d",))
        for thing, right in (((1, (1, 1, 1)), True), ((1, (1, 1, 0)), False), ((1, (2, 1, 1)), False), ((1, (0, 1, 1)), False),
                             ((1, (1, 2, 1)), False), ((1, (1, 1)), False), ((1, (1, 1, 1, 1)), False),
                             ((0, (0, 0, 0)), False), ((1, [1, 1, 1]), False), ((True, (1, 1, 1)), False),
                             ((10 ** 55, (10 ** 55, 10 ** 55, 1)), True)):
            self.assertIs(coupled_holds(near, far, SAME, ("lost", *thing)), right, thing)


class Unrolled(unittest.TestCase):
    def test_the_example(self):
        found = unrolled(HOLD, 2)
        self.assertEqual(found, ((("s", K), ("a", K), ("b", K)), (), (
            ("greatest", "c", K, "s", "a"), ("times", "d", K, 1, "c"), ("greatest", "e", K, "d", "b"),
            ("times", "f", K, 1, "e")), ("f",)))

    def test_names(self):
        # States named a and c; joined names; a name that two arms give on their own, and one given anew.
        body = (("if", "c", "x", (("plus", "m", K2, "c", "x"), ("if", "x", "c", (("times", "n", K, 1, "a"),), ())),
                 (("minus", "m", K2, "c", "x"), ("times", "o", K, 1, "m"))), ("times", "n", K3, 0, "m"))
        some = rounds((("c", K2), ("a", K), ("x", U), ("y", U)), body, ("n", "a"), 2, facts=(("y", "x"),))
        self.assertEqual(unrolled(some, 2), (
            (("c", K2), ("a", K), ("b", U), ("d", U), ("e", U), ("f", U)), (("d", "b"), ("f", "e")),
            (("if", "c", "b", (("plus", "g", K2, "c", "b"), ("if", "b", "c", (("times", "h", K, 1, "a"),), ())),
              (("minus", "g", K2, "c", "b"), ("times", "i", K, 1, "g"))), ("times", "j", K3, 0, "g"),
             ("times", "k", K2, 1, "j"), ("times", "l", K, 1, "a"),
             ("if", "k", "e", (("plus", "m", K2, "k", "e"), ("if", "e", "k", (("times", "n", K, 1, "l"),), ())),
              (("minus", "m", K2, "k", "e"), ("times", "o", K, 1, "m"))), ("times", "p", K3, 0, "m"),
             ("times", "q", K2, 1, "p"), ("times", "r", K, 1, "l")), ("q", "r")))

    def test_an_out_that_is_an_input(self):
        some = rounds((("s", K), ("x", K2)), [], ("x",))
        self.assertEqual(unrolled(some, 2), ((("s", K), ("a", K2), ("b", K2)), (), (
            ("times", "c", K, 1, "a"), ("times", "d", K, 1, "b")), ("d",)))
        turn = rounds((("p", K), ("q", K2)), [], ("q", "p"), 2)
        self.assertEqual(unrolled(turn, 3)[2:], ((
            ("times", "a", K, 1, "q"), ("times", "b", K2, 1, "p"), ("times", "c", K, 1, "b"), ("times", "d", K2, 1, "a"),
            ("times", "e", K, 1, "d"), ("times", "f", K2, 1, "c")), ("e", "f")))

    def test_facts_are_ascending(self):
        some = rounds((("s", U), ("x", U), ("y", U)), [("minus", "d", U, "y", "x")], ("d",), facts=(("x", "y"), ("y", "x")))
        self.assertEqual(unrolled(some, 2)[1], (("a", "b"), ("b", "a"), ("c", "d"), ("d", "c")))

    def test_many_names(self):
        body = tuple(("times", "x" + chr(97 + k), K, 1, "z") for k in range(5))
        some = rounds((("z", K), ("y", K)), body, ("xa",))
        found = unrolled(some, 4)
        self.assertTrue(is_program(found))
        given = [item[1] for item in found[2]]
        letters = [letter for letter in "abcdefghijklmnopqrstuvwxy"]
        self.assertEqual(given, (letters + ["aa", "ab", "ac", "ad"])[4:28])
        self.assertEqual([name for name, _ in found[0]], ["z", "a", "b", "c", "d"])
        self.assertEqual(statement_count(found), 24)

    def test_runs(self):
        rand = random.Random(103)
        many = trips = 0
        for seed in range(300):
            some = at_will(rand, seed)
            r = rand.randint(1, 4)
            if some is None or some[1] + r * len(items_of(some)) > 6 or r * (statement_count(some[0]) + some[1]) > 24:
                continue
            found = unrolled(some, r)
            self.assertTrue(is_program(found))
            self.assertEqual(found[0][:some[1]], some[0][0][:some[1]])
            many += 1
            for bound in (1, 2):
                for given in rand.sample(all_given(found, bound), min(20, len(all_given(found, bound)))):
                    states = given[:some[1]]
                    m = len(items_of(some))
                    for time in range(r):
                        if states is not None:
                            states = done(some, bound, (*states, *given[some[1] + time * m:some[1] + (time + 1) * m]))
                    ended = walked(found, bound, given)[1]
                    trips += states is None
                    self.assertEqual(ended if states is not None else ended[0],
                                     ("ends", states) if states is not None else "trips")
        self.assertGreater(many, 80)
        self.assertGreater(trips, 300)


class WrongInputs(unittest.TestCase):
    def test_rounds(self):
        for x in (*ANY_VALUES, (HOLD[0], 2), (HOLD[0], True), list(HOLD), HOLD[0], (HOLD[0][:3], 1)):
            self.assertIs(caught(BadRounds, judge_kept, x, None), x)
            self.assertIs(caught(BadRounds, kept_holds, x, None, None), x)
            self.assertIs(caught(BadRounds, unrolled, x, None), x)
            for call in (judge_coupled, lambda one, other, couplings: coupled_holds(one, other, couplings, None)):
                self.assertIs(caught(BadRounds, call, x, None, None), x)
                self.assertIs(caught(BadRounds, call, HOLD, x, None), x)

    def test_other_items(self):
        two = rounds((("s", K), ("x", K), ("y", K)), [], ("s",))
        wider = rounds((("s", K), ("x", K2)), [], ("s",))
        none = rounds((("s", K),), [], ("s",))
        for call in (judge_coupled, lambda one, other, couplings: coupled_holds(one, other, couplings, None)):
            for other in (two, wider, none):
                self.assertIsNone(caught(OtherItems, call, HOLD, other, None))
                self.assertIsNone(caught(OtherItems, call, other, HOLD, None))
            for facts in ((("x", "y"),), (("y", "x"),)):
                self.assertIsNone(caught(OtherItems, call, two, ((two[0][0], facts, *two[0][2:]), 1), None))

    def test_bounds(self):
        for x in (*ANY_VALUES, ((1,),), ((1, 2, 3),), [(1, 0)], ((1, True),), ((1, 0),) * 13, ((1, 0), None), ([1, 0],)):
            if x == ():
                continue
            self.assertIs(caught(BadWalls, judge_kept, HOLD, x), x)
            self.assertIs(caught(BadWalls, kept_holds, HOLD, x, None), x)
        for x in (*ANY_VALUES, ((1, 0),), ((1, 2, 3, 4),), [(1, 0, 0)], ((1, 0, True),), ((1, 0, 0),) * 13):
            if x == ():
                continue
            self.assertIs(caught(BadWalls, judge_coupled, HOLD, HOLD, x), x)
            self.assertIs(caught(BadWalls, coupled_holds, HOLD, HOLD, x, None), x)
        self.assertEqual(judge_kept(HOLD, ((1, 0),) * 12)[0], "kept")
        self.assertEqual(judge_coupled(HOLD, HOLD, SAME * 6)[0], "coupled")

    def test_numbers_and_too_many(self):
        for x in (*ANY_VALUES, 0, 5, -1, "2", (1,), [1]):
            if type(x) is not int or not 1 <= x <= 4:
                self.assertIs(caught(BadNumber, unrolled, HOLD, x), x)
        wide = rounds((("s", K), ("x", K), ("y", K)), [("plus", "d", K, "x", "y")], ("s",))
        self.assertEqual(caught(TooMany, unrolled, wide, 3), 6)
        self.assertEqual(len(unrolled(wide, 2)[0]), 5)
        long = rounds((("s", K), ("x", K)), [("times", "d" + chr(97 + k), K, 1, "x") for k in range(11)], ("s",))
        self.assertEqual(caught(TooMany, unrolled, long, 3), 24)
        self.assertEqual(len(unrolled(long, 2)[2]), 24)
        both = rounds((("s", K), ("x", K), ("y", K)), long[0][2], ("s",))
        self.assertEqual(caught(TooMany, unrolled, both, 3), 6)
        self.assertEqual(caught(BadNumber, unrolled, both, 5), 5)
        nested = rounds((("s", K),), [("if", "s", "s", (("times", "d", K, 1, "s"),), ())] * 4, ("s",))
        self.assertEqual(statement_count(nested[0]), 8)
        self.assertEqual(caught(TooMany, unrolled, nested, 3), 24)

    def test_functions_are_defined_there(self):
        for name in ("are_rounds", "judge_kept", "kept_holds", "judge_coupled", "coupled_holds", "unrolled"):
            self.assertEqual(getattr(module, name).__module__, "tripmeans.rounds")


class Limits(Asked):
    def test_eight_statements_and_four_ways(self):
        ins = (("p", K), ("q", U), ("r", U2), ("x", K), ("y", U), ("z", U2))
        body = [("least", "a", K, "p", "x"), ("greatest", "b", U, "q", "y"), ("plus", "c", K2, "a", "b"),
                ("minus", "d", K3, "c", "a"), ("times", "e", ("both", 9), -3, "a"), ("plus", "f", ("both", 9), "e", "e"),
                ("minus", "g", ("both", 9), "f", "e"), ("plus", "h", ("both", 9), "g", "c")]
        some = rounds(ins, body, ("a", "b", "z"), 3, facts=(("x", "y"), ("y", "z")))
        bounds = tuple((x, y, 0, 3) for x in (-1, 0, 1) for y in (-1, 1)) + tuple((0, x, -1, 3) for x in (-1, 0, 1, 2, -2, 0))
        self.kept(some, bounds)
        self.assertTrue(self.kept(some, ((-1, 0, 0, 1), (0, 1, 0, 0), (0, -1, 0, 1))))
        one = rounds((("p", K), ("q", U), ("x", K), ("y", U)), body[:4], ("a", "b"), 2, facts=(("x", "y"),))
        other = rounds((("p", K), ("q", U), ("x", K), ("y", U)), [body[0], ("greatest", "b", U, "y", "q")],
                       ("a", "b"), 2, facts=(("x", "y"),))
        same = ((1, 0, -1, 0, 0), (-1, 0, 1, 0, 0), (0, 1, 0, -1, 0), (0, -1, 0, 1, 0))
        self.assertTrue(self.coupled(one, other, same))
        self.coupled(other, one, same + ((1, 1, 1, 1, 9),) * 8)


if __name__ == "__main__":
    unittest.main()
