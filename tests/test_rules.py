"""Part 9: rules, their papers, where they fit and go, and what they leave."""

import itertools
import random
import unittest

from later_words import statements
from support import ANY_VALUES, Maker, caught, changed_once, most_digits
from tripmeans import rules as module
from tripmeans.errors import BadNumber, BadProgram, BadRule, NoPlace
from tripmeans.programs import is_kind_within, is_program, is_straight, known_at, statement_count
from tripmeans.refining import does_refine
from tripmeans.rules import does_fit, done_at, is_rule, judge_rule, match_at, places_of, rule_holds
from words import all_given, changed_program, do_part, is_refines_paper, ways

K, U = ("both", 1), ("up", 1)
K2, K3, U2, WIDE = ("both", 2), ("both", 3), ("up", 2), ("both", 30)
INS = (("a", K), ("b", K))


def plus(name, one, other, kind=K):
    return ("plus", name, kind, one, other)


def times(name, factor, one, kind=K):
    return ("times", name, kind, factor, one)


def fork(then, other, small="a", large="b"):
    return ("if", small, large, tuple(then), tuple(other))


def made(*body, outs=("a",), ins=INS, facts=()):
    program = (ins, facts, body, outs)
    assert is_program(program), program
    return program


def ruled(left, right, outs=("v",), right_outs=None, ins=INS, facts=()):
    """A rule whose two sides have these bodies."""
    rule = (made(*left, outs=outs, ins=ins, facts=facts), made(*right, outs=right_outs or outs, ins=ins, facts=facts))
    assert is_rule(rule), rule
    return rule


BACK = ruled([plus("u", "a", "b", K2), ("minus", "v", K, "u", "b")], [times("v", 1, "a")])
TURN = ruled([plus("v", "a", "b")], [plus("v", "b", "a")])


class Asked(unittest.TestCase):
    def goes(self, program, rule, number, match, *body, outs=None):
        """Asks that a rule goes, with a match that is told by a dict, and leaves this body."""
        found = (*program[:2], body, program[3] if outs is None else outs)
        self.assertEqual(match_at(program, rule, number), tuple(sorted(match.items())))
        self.assertIs(does_fit(program, rule, number), True)
        self.assertEqual(done_at(program, rule, number), found)
        self.assertTrue(is_program(found))
        self.assertIn(number, places_of(program, rule))

    def misfits(self, program, rule, *numbers):
        for number in numbers:
            self.assertIsNone(match_at(program, rule, number), (program, rule, number))
            self.assertIs(does_fit(program, rule, number), False)
            self.stays(program, rule, number)

    def stays(self, program, rule, number):
        self.assertEqual(caught(NoPlace, done_at, program, rule, number), number)
        self.assertNotIn(number, places_of(program, rule))


class Rules(Asked):
    def test_is_rule(self):
        left, right = BACK
        self.assertIs(is_rule(BACK), True)
        ins = (*INS, ("c", K))
        for thing in (
                (left,), (left, right, right), [left, right], (left, None), (None, right), (left, left[:3]),
                # Other inputs, facts, numbers of outs; an "if"; an out of right that is an input.
                (left, (ins, *right[1:])), (left, (INS[::-1], *right[1:])), (left, (INS, (("a", "b"),), *right[2:])),
                (left, (*right[:3], ("v", "v"))), (left, (*right[:3], ("a",))), (left, (*right[:2], (), ("b",))),
                (left, (*right[:2], (fork([], []), *right[2]), ("v",))),
                ((*left[:2], (*left[2], fork([], [])), ("v",)), right),
                # Outs of left that are alike, or inputs; an input that nothing reads; no statement at all.
                ((*left[:3], ("v", "v")), (*right[:3], ("v", "v"))), ((*left[:3], ("a",)), right),
                ((*left[:3], ("v", "b")), (*right[:3], ("v", "v"))), ((ins, *left[1:]), (ins, *right[1:])),
                ((INS, (), (), ("a",)), right)):
            self.assertIs(is_rule(thing), False, thing)
        for thing in ((left, left), (left, (*right[:2], (*right[2], plus("w", "v", "v")), ("w",))),
                      ((*left[:3], ("v", "u")), (*right[:3], ("v", "v"))), ((*left[:3], ("u",)), right),
                      ((ins, (), (*left[2], plus("w", "c", "c")), ("v",)), (ins, *right[1:]))):
            self.assertIs(is_rule(thing), True, thing)
        for thing in (*ANY_VALUES, (left, list(right)), ({}, left), (left, (left, right))):
            self.assertIs(is_rule(thing), False)

    def test_papers(self):
        words = []
        for rule in (BACK, TURN, BACK[::-1], (BACK[0], (*BACK[1][:2], (times("v", -1, "a"),), ("v",)))):
            if not is_rule(rule):
                continue
            paper = judge_rule(rule)
            words.append(paper[0])
            self.assertTrue(is_refines_paper(*rule, paper))
            self.assertIs(rule_holds(rule, paper), True)
            self.assertLessEqual(most_digits(paper), 60)
            for thing in changed_once(paper):
                self.assertIs(rule_holds(rule, thing), is_refines_paper(*rule, thing))
            for thing in ANY_VALUES:
                self.assertIs(rule_holds(rule, thing), False)
        self.assertEqual(words, ["refines", "refines", "parts"])

    def test_a_wrong_rule_does_not_refine_its_own_left_side(self):
        rule = ruled([plus("u", "a", "b", K), ("minus", "v", K2, "u", "b")], [plus("v", "a", "b", K3)])
        self.assertEqual(judge_rule(rule)[0], "parts")
        self.assertFalse(does_refine(rule[0], done_at(rule[0], rule, 0)))


class Matches(Asked):
    def test_the_example(self):
        self.assertEqual(judge_rule(BACK)[0], "refines")
        program = made(plus("p", "b", "a", K2), ("minus", "q", K, "p", "a"), outs=("q",))
        self.goes(program, BACK, 0, {"a": "b", "b": "a", "u": "p", "v": "q"}, times("q", 1, "b"))

    def test_words_kinds_factors_and_right_sides(self):
        program = made(plus("p", "a", "b", K2), ("minus", "q", K, "p", "b"), outs=("q",))
        self.goes(program, BACK, 0, {"a": "a", "b": "b", "u": "p", "v": "q"}, times("q", 1, "a"))
        for body in ((plus("p", "a", "b", K3), program[2][1]), (plus("p", "a", "b", U2), program[2][1]),
                     (program[2][0], ("minus", "q", U, "p", "b")), (("minus", "p", K2, "a", "b"), program[2][1]),
                     (program[2][0], ("minus", "q", K, "b", "p")), (program[2][0], ("minus", "q", K, "p", "a")),
                     (program[2][0], ("plus", "q", K, "p", "b")), (program[2][0], times("q", 1, "p"))):
            self.misfits(made(*body, outs=("q",)), BACK, 0)
        triple = ruled([times("v", 3, "a")], [plus("w", "a", "a", K2), plus("v", "w", "a")], ins=INS[:1])
        self.goes(made(times("c", 3, "b"), outs=("c",)), triple, 0, {"a": "b", "v": "c"}, plus("na", "b", "b", K2),
                  plus("c", "na", "b"), outs=("c",))
        self.misfits(made(times("c", -3, "b")), triple, 0)

    def test_inputs_that_stand_for_one_name(self):
        self.goes(made(plus("p", "b", "b", K2), ("minus", "q", K, "p", "b"), outs=("q",)), BACK, 0,
                  {"a": "b", "b": "b", "u": "p", "v": "q"}, times("q", 1, "b"))
        double = ruled([plus("v", "a", "a")], [times("v", 2, "a")], ins=INS[:1])
        self.goes(made(plus("c", "b", "b"), outs=("c",)), double, 0, {"a": "b", "v": "c"}, times("c", 2, "b"))
        self.misfits(made(plus("c", "b", "a"), outs=("c",)), double, 0)

    def test_kinds_of_what_is_known(self):
        for kind in (K, U, K2, U2):
            program = made(plus("p", "c", "b", K2), ("minus", "q", K, "p", "b"), outs=("q",), ins=(*INS, ("c", kind)))
            if is_kind_within(kind, K):
                self.goes(program, BACK, 0, {"a": "c", "b": "b", "u": "p", "v": "q"}, times("q", 1, "c"))
            else:
                self.misfits(program, BACK, 0)
        # Names that statements gave: their registers tell.
        for kind in (K, U, K2):
            program = made(times("c", 5, "a", kind), plus("p", "c", "b", K2), ("minus", "q", K, "p", "b"), outs=("q",))
            if kind == K2:
                self.misfits(program, BACK, 1)
            else:
                self.goes(program, BACK, 1, {"a": "c", "b": "b", "u": "p", "v": "q"}, program[2][0], times("q", 1, "c"))

    def test_inputs_stand_for_what_is_known_at_the_place(self):
        rule = ruled([plus("u", "a", "b"), plus("v", "c", "a")], [plus("v", "c", "a")], ins=(*INS, ("c", K)))
        self.misfits(made(plus("p", "a", "b"), plus("q", "p", "a"), outs=("q",)), rule, 0)
        self.goes(made(plus("p", "a", "b"), plus("q", "b", "a"), outs=("q",)), rule, 0,
                  {"a": "a", "b": "b", "c": "b", "u": "p", "v": "q"}, plus("q", "b", "a"))

    def test_one_block(self):
        pair = (plus("p", "a", "b", K2), ("minus", "q", K, "p", "b"))
        done = times("q", 1, "a")
        match = {"a": "a", "b": "b", "u": "p", "v": "q"}
        self.goes(made(fork([], pair)), BACK, 1, match, fork([], [done]))
        self.goes(made(fork(pair, [times("c", 2, "a")])), BACK, 1, match, fork([done], [times("c", 2, "a")]))
        inner = made(fork([times("c", 2, "a"), fork([*pair, times("d", 1, "q")], [], "c", "a")], []), times("e", 1, "b"))
        self.goes(inner, BACK, 3, match, fork([times("c", 2, "a"), fork([done, times("d", 1, "q")], [], "c", "a")], []),
                  inner[2][1])
        for program in (made(pair[0], fork([], [pair[1]])), made(pair[0], fork([], []), pair[1]), made(*pair[:1]),
                        made(fork([pair[0]], [("minus", "q", K, "a", "b")])), made(pair[0], times("c", 1, "a"), pair[1])):
            self.misfits(program, BACK, *range(statement_count(program)))

    def test_facts(self):
        rule = ruled([("minus", "v", U2, "b", "a")], [("minus", "v", K2, "b", "a")], facts=(("a", "b"),))
        ins = tuple((name, U) for name in "pqrst")

        def program(small, large, facts):
            return made(("minus", "c", U2, large, small), outs=("c",), ins=ins, facts=facts)

        for small, large, facts, right in (
                ("p", "q", (("p", "q"),), True), ("q", "p", (("p", "q"),), False), ("p", "q", (), False),
                ("p", "p", (), True), ("p", "r", (("p", "q"), ("q", "r")), True),
                ("p", "t", (("p", "r"), ("q", "p"), ("r", "s"), ("s", "t")), True),
                ("q", "t", (("p", "r"), ("q", "p"), ("r", "s"), ("s", "t")), True),
                ("t", "q", (("p", "r"), ("q", "p"), ("r", "s"), ("s", "t")), False),
                ("p", "t", (("p", "q"), ("q", "r"), ("s", "t")), False),
                ("q", "p", (("p", "q"), ("q", "r"), ("r", "p")), True)):
            if right:
                self.goes(program(small, large, facts), rule, 0, {"a": small, "b": large, "v": "c"},
                          ("minus", "c", K2, large, small))
            else:
                self.misfits(program(small, large, facts), rule, 0)
        # Other names than inputs have no facts, but a name is never above itself.
        inner = made(times("d", 0, "p", U), ("minus", "c", U2, "d", "d"), ("minus", "e", U2, "q", "d"), ins=ins, outs=("c",),
                     facts=(("p", "q"),))
        self.goes(inner, rule, 1, {"a": "d", "b": "d", "v": "c"}, inner[2][0], ("minus", "c", K2, "d", "d"), inner[2][2])
        self.misfits(inner, rule, 2)

    def test_names_that_left_gives_and_that_stand_elsewhere(self):
        pair = (plus("p", "a", "b", K2), ("minus", "q", K, "p", "b"))
        fits = {"a": "a", "b": "b", "u": "p", "v": "q"}
        for more, outs in (([times("c", 1, "p")], ("q",)), ([], ("p",)), ([], ("q", "p")),
                           ([fork([], [], "p", "a")], ("q",)), ([fork([], [], "a", "p")], ("q",)),
                           ([fork([], [fork([plus("c", "a", "p")], [])])], ("q",))):
            self.misfits(made(*pair, *more, outs=outs), BACK, 0)
        # It is given anew behind the arm, or given by the other arm: it stands there, too.
        self.misfits(made(fork(pair, []), times("p", 1, "a")), BACK, 1)
        self.misfits(made(fork(pair, [times("p", 1, "a", K2)])), BACK, 1)
        self.goes(made(fork([times("p", 1, "a", K2)], pair)), BACK, 2, fits,
                  fork([times("p", 1, "a", K2)], [times("q", 1, "a")]))
        self.goes(made(times("c", 1, "a"), *pair, times("d", 2, "q"), outs=("q", "c")), BACK, 1, fits,
                  times("c", 1, "a"), times("q", 1, "a"), times("d", 2, "q"))
        # An out of left may stand anywhere.
        both = ruled(BACK[0][2], [plus("u", "a", "b", K2), times("v", 1, "a")], outs=("u", "v"))
        self.goes(made(*pair, times("c", 1, "p"), outs=("p",)), both, 0, fits, pair[0], times("q", 1, "a"),
                  times("c", 1, "p"))


class Done(Asked):
    def test_outs_each_in_its_place(self):
        rule = ruled([plus("u", "a", "b", K2), ("minus", "v", K2, "a", "b")],
                     [("minus", "x", K3, "b", "a"), plus("y", "a", "b", U)], outs=("u", "v"), right_outs=("y", "x"))
        program = made(plus("p", "b", "a", K2), ("minus", "q", K2, "b", "a"), outs=("q", "p"))
        self.goes(program, rule, 0, {"a": "b", "b": "a", "u": "p", "v": "q"}, ("minus", "q", K3, "a", "b"),
                  plus("p", "b", "a", U))

    def test_one_name_for_two(self):
        rule = ruled([times("u", 1, "a"), times("v", 1, "a")], [times("w", 1, "a")], outs=("u", "v"),
                     right_outs=("w", "w"), ins=INS[:1])
        self.assertEqual(judge_rule(rule)[0], "refines")
        program = made(times("c", 1, "b"), times("d", 1, "b"), outs=("c", "d"))
        self.assertIs(does_fit(program, rule, 0), True)
        self.stays(program, rule, 0)
        single = ruled([times("u", 1, "a"), times("v", 1, "a")], [times("w", 1, "a")], outs=("v",), right_outs=("w",),
                       ins=INS[:1])
        self.goes(made(*program[2], outs=("d",)), single, 0, {"a": "b", "u": "c", "v": "d"}, times("d", 1, "b"))

    def test_new_names(self):
        rule = ruled([times("v", 4, "a", WIDE)],
                     [plus("a" + "b", "a", "a", K2), plus("na", "ab", "a", K3), plus("v", "na", "a", WIDE)], ins=INS[:1])

        def news(program, number=0):
            body = statements(done_at(program, rule, number))
            return [item[1] for item in body[number:number + 2]]

        ins = lambda *names: tuple((name, K) for name in names)
        self.assertEqual(news(made(times("c", 4, "a", WIDE), outs=("c",))), ["na", "nb"])
        self.assertEqual(news(made(times("c", 4, "a", WIDE), ins=ins("a", "na"))), ["nb", "nc"])
        self.assertEqual(news(made(times("nb", 4, "a", WIDE), times("na", 1, "nb"))), ["nc", "nd"])
        self.assertEqual(news(made(fork([times("nc", 1, "a"), times("na", 1, "a")], [times("c", 4, "a", WIDE)])), 3),
                         ["nb", "nd"])
        many = [times("n" + chr(97 + k), 1, "a") for k in range(20)]
        self.assertEqual(news(made(times("c", 4, "a", WIDE), *many, ins=ins("a", "nu", "nv", "nw", "nx", "ny"))),
                         ["nz", "naa"])
        self.assertEqual(news(made(times("c", 4, "a", WIDE), *many[1:], ins=ins("nu", "a", "nv", "nw", "nx", "ny"))),
                         ["na", "nz"])
        self.assertEqual(news(made(times("nz", 4, "a", WIDE), *many, ins=ins("nv", "a", "nu", "nw", "nx", "ny"))),
                         ["naa", "nab"])
        # Names of what makes room are taken, too: they stood in the program as it was.
        back = ruled([times("u", 2, "a", K2), times("v", 2, "u", WIDE)], rule[1][2], ins=INS[:1])
        program = made(times("na", 2, "b", K2), times("c", 2, "na", WIDE), outs=("c",))
        self.goes(program, back, 0, {"a": "b", "u": "na", "v": "c"}, plus("nb", "b", "b", K2), plus("nc", "nb", "b", K3),
                  plus("c", "nc", "b", WIDE))

    def test_results_that_are_no_programs(self):
        wider = ruled([plus("v", "a", "b")], [plus("v", "b", "a", K2)])
        joined = made(fork([plus("c", "a", "b")], [times("c", 1, "a")]), outs=("c",))
        self.assertIs(does_fit(joined, wider, 1), True)
        self.stays(joined, wider, 1)
        self.goes(joined, TURN, 1, {"a": "a", "b": "b", "v": "c"}, fork([plus("c", "b", "a")], [times("c", 1, "a")]))
        # More than 24 statements.
        longer = ruled([times("v", 1, "a")], [times("u", 1, "a"), times("v", 1, "u")], ins=INS[:1])
        for many, right in ((23, True), (24, False)):
            program = made(*[times("x" + chr(97 + k), 1, "a") for k in range(many)])
            self.assertEqual(places_of(program, longer), tuple(range(many)) if right else ())
            self.assertIs(does_fit(program, longer, 0), True)

    def test_rules_that_are_wrong_can_be_done(self):
        rule = ruled([plus("v", "a", "b")], [times("v", 7, "a")])
        self.goes(made(plus("c", "b", "a"), outs=("c",)), rule, 0, {"a": "b", "b": "a", "v": "c"}, times("c", 7, "b"))

    def test_places(self):
        program = made(plus("c", "a", "b"), fork([plus("d", "b", "a")], [plus("d", "c", "c")]), times("e", 1, "a"),
                       plus("f", "d", "e"), outs=("f",))
        self.assertEqual(places_of(program, TURN), (0, 2, 3, 5))
        self.assertEqual(places_of(made(), TURN), ())
        self.assertEqual([does_fit(program, TURN, number) for number in range(6)], [True, False, True, True, False, True])


def straight(seed, most):
    """A straight program, in which names that are given before are read often."""
    while True:
        found = Maker(seed, wide=2, far=2, ins=2, most=most).program()
        body = [item for item in found[2] if item[0] != "if"]
        names = {name for name, _ in found[0]}
        kept = []
        for item in body:
            if all(name in names for name in item[3:] if type(name) is str):
                kept.append(item)
                names.add(item[1])
        program = (*found[:2], tuple(kept), (kept[-1][1] if kept else found[0][0][0],))
        if kept and is_program(program):
            return program
        seed += 10 ** 6


def rule_at_will(rand, seed):
    """A rule that is made of a straight program: its inputs are those that are read; None if it is none."""
    left = straight(seed, 3)
    read = {name for item in left[2] for name in item[3:] if type(name) is str}
    ins = tuple(pair for pair in left[0] if pair[0] in read)
    facts = tuple(fact for fact in left[1] if set(fact) <= {name for name, _ in ins})
    left = (ins, facts, *left[2:])
    if not is_program(left) or not is_straight(left):
        return None
    rule = (left, changed_program(rand, left) if rand.randrange(3) else swapped_sides(left))
    return rule if is_rule(rule) else None


def swapped_sides(program):
    body = tuple((*item[:3], item[4], item[3]) if item[0] in ("plus", "least", "greatest") else item for item in program[2])
    return (*program[:2], body, program[3])


def hidden_in(rand, rule, seed):
    """A program that has the left side of a rule somewhere, with other names and more around it."""
    program = Maker(seed, wide=2, far=2, ins=3, most=4).program()
    known = [name for name, kind in program[0]]
    names = {}
    for name, _ in rule[0][0]:
        names[name] = rand.choice(known)
    for k, item in enumerate(rule[0][2]):
        names[item[1]] = "y" + "xyz"[k] * 2
    body = [(item[0], names[item[1]], item[2], *[names.get(x, x) for x in item[3:]]) for item in rule[0][2]]
    last = body[-1][1]
    shape = rand.randrange(3)
    whole = (*body, *program[2]) if shape == 0 else (*program[2], *body)
    if shape == 2:
        whole = (*program[2], fork(body, [], known[0], known[-1]))
        last = known[0]
    return (*program[:2], whole, (*program[3][:3], last))


def tried(program, rule, number):
    """All matches at a number, by trying all names that are known there for the inputs [9.4]."""
    left = rule[0]
    here = statements(program)[number:number + len(left[2])]
    blocks = [program[2]] + [arm for item in statements(program) if item[0] == "if" for arm in item[3:]]
    if not any(tuple(here) == block[k:k + len(here)] for block in blocks for k in range(len(block))):
        return
    if len(here) < len(left[2]) or any(item[0] == "if" for item in here):
        return
    known = dict(known_at(program, number))
    behind = [name for item in statements(program)[number + len(here):]
              for name in (item[1:3] if item[0] == "if" else (item[1], *item[3:]))] + list(program[3])
    for names in itertools.product(sorted(known), repeat=len(left[0])):
        match = {name: other for (name, _), other in zip(left[0], names)}
        match.update({mine[1]: theirs[1] for mine, theirs in zip(left[2], here)})
        same = all((mine[0], match[mine[1]], mine[2], *[match.get(x, x) for x in mine[3:]]) == theirs
                   for mine, theirs in zip(left[2], here))
        fit = all(is_kind_within(known[match[name]], kind) for name, kind in left[0])
        facts = all(match[a] == match[b] or leads(program[1], match[a], match[b]) for a, b in left[1])
        hidden = any(match[item[1]] in behind for item in left[2] if item[1] not in left[3])
        if same and fit and facts and not hidden:
            yield tuple(sorted(match.items()))


def leads(facts, small, large):
    """Whether a row of facts leads from one name to another one."""
    rows = [[small, b] for a, b in facts if a == small]
    for _ in facts:
        rows += [[*row, b] for row in rows for a, b in facts if a == row[-1] and len(row) <= len(facts)]
        rows = list({row[-1]: row for row in rows}.values())
    return any(row[-1] == large for row in rows)


class ManyPrograms(Asked):
    def test_right_rules_refine_wherever_they_are_done(self):
        rand = random.Random(83)
        words = {"refines": 0, "parts": 0}
        fitted = 0
        for seed in range(700):
            rule = rule_at_will(rand, seed)
            if rule is None:
                continue
            paper = judge_rule(rule)
            words[paper[0]] += 1
            self.assertTrue(is_refines_paper(*rule, paper))
            self.assertEqual(does_refine(rule[0], done_at(rule[0], rule, 0)), paper[0] == "refines")
            program = hidden_in(rand, rule, seed)
            if not is_program(program) or len(ways(program, 4)) > 4:
                continue
            for number in range(statement_count(program)):
                match = match_at(program, rule, number)
                self.assertEqual([match] if match is not None else [], list(tried(program, rule, number)))
                if match is None:
                    self.assertNotIn(number, places_of(program, rule))
                    continue
                fitted += 1
                self.matched(program, rule, number, dict(match))
                if number in places_of(program, rule) and paper[0] == "refines":
                    self.assertTrue(does_refine(program, done_at(program, rule, number)), (program, rule, number))
                    for given in all_given(program, 1):
                        self.assertFalse(do_part(program, done_at(program, rule, number), 1, given))
        self.assertGreater(min(*words.values(), fitted), 60)

    def matched(self, program, rule, number, match):
        """What [9.4] asks of a match, by its words."""
        left = rule[0]
        here = statements(program)[number:number + len(left[2])]
        for mine, theirs in zip(left[2], here):
            self.assertEqual(tuple(match.get(x, x) for x in mine[1:2] + mine[3:]), theirs[1:2] + theirs[3:])
            self.assertEqual((mine[0], mine[2]), (theirs[0], theirs[2]))
        known = dict(known_at(program, number))
        for name, kind in left[0]:
            self.assertTrue(is_kind_within(known[match[name]], kind))
        self.assertEqual(set(match), {name for name, _ in left[0]} | {item[1] for item in left[2]})


class WrongInputs(unittest.TestCase):
    def test_programs_then_rules_then_numbers(self):
        program = TURN[0]
        for x in (*ANY_VALUES, list(program), program[:3]):
            for call in (match_at, does_fit, done_at):
                self.assertIs(caught(BadProgram, call, x, None, None), x)
            self.assertIs(caught(BadProgram, places_of, x, None), x)
        for x in (*ANY_VALUES, TURN[:1], list(TURN), (TURN[0], TURN[0][:3]), program):
            for call in (match_at, does_fit, done_at):
                self.assertIs(caught(BadRule, call, program, x, None), x)
            self.assertIs(caught(BadRule, places_of, program, x), x)
            self.assertIs(caught(BadRule, judge_rule, x), x)
            self.assertIs(caught(BadRule, rule_holds, x, None), x)
        for x in (*ANY_VALUES, -1, 1, "0", (0,), [0]):
            if type(x) is not int or x != 0:
                for call in (match_at, does_fit, done_at):
                    self.assertIs(caught(BadNumber, call, program, TURN, x), x)

    def test_functions_are_defined_there(self):
        for name in ("is_rule", "judge_rule", "rule_holds", "match_at", "does_fit", "done_at", "places_of"):
            self.assertEqual(getattr(module, name).__module__, "tripmeans.rules")


if __name__ == "__main__":
    unittest.main()
