"""Part 9: the seven passes, where each goes and where just one thing that it asks is not so."""

import random
import unittest

import text_passes
from later_words import statements, width_of
from support import ANY_VALUES, Maker, caught
from tripmeans import passes as module
from tripmeans.errors import BadNumber, BadPass, BadProgram, NoPlace
from tripmeans.passes import does_go, passed, passes_at, tidied
from tripmeans.programs import is_kind_within, is_program, statement_count
from tripmeans.refining import does_refine, judge_alike
from words import all_given, do_part, ways

K, U = ("both", 1), ("up", 1)
K2, K3, U2 = ("both", 2), ("both", 3), ("up", 2)
INS = (("a", K), ("b", K))
WORDS = ("drop", "hoist", "merge", "share", "sink", "swap")
P = (INS, (), (("plus", "s", K2, "a", "b"), ("plus", "t", K, "b", "a")), ("t", "s"))


def plus(name, one, other, kind=K):
    return ("plus", name, kind, one, other)


def times(name, factor, one, kind=K):
    return ("times", name, kind, factor, one)


def fork(then, other, small="a", large="b"):
    return ("if", small, large, tuple(then), tuple(other))


def made(*body, outs=("a",), ins=INS, facts=()):
    program = (ins, facts, body, outs)
    assert is_program(program), program
    return program


class Asked(unittest.TestCase):
    def goes(self, program, step, *body, outs=None):
        """Asks that a pass goes, and leaves this body and these outs."""
        found = (*program[:2], body, program[3] if outs is None else outs)
        self.assertIs(does_go(program, step), True)
        self.assertEqual(passed(program, step), found)
        self.assertTrue(is_program(found))
        self.assertTrue(does_refine(program, found))
        if step[0] != "widen":
            self.assertIn(step, passes_at(program, step[1]))

    def stays(self, program, *steps):
        """Asks that passes do not go."""
        assert is_program(program)
        for step in steps:
            self.assertIs(does_go(program, step), False, (program, step))
            self.assertEqual(caught(NoPlace, passed, program, step), step[1])
            if 0 <= step[1] < statement_count(program):
                self.assertNotIn(step, passes_at(program, step[1]))


class Share(Asked):
    def test_the_example(self):
        self.goes(P, ("share", 1), P[2][0], outs=("s", "s"))
        self.assertIs(does_go(P, ("drop", 0)), False)
        self.assertIs(does_go(P, ("swap", 0)), True)
        self.assertFalse(does_refine(passed(P, ("share", 1)), P))

    def test_words_and_right_sides(self):
        for word in ("plus", "least", "greatest"):
            for right in (("a", "b"), ("b", "a")):
                program = made((word, "c", K2, "a", "b"), (word, "d", K3, *right), outs=("d", "c", "d"))
                self.goes(program, ("share", 1), program[2][0], outs=("c", "c", "c"))
            self.stays(made((word, "c", K2, "a", "b"), (word, "d", K3, "a", "a")), ("share", 1), ("share", 0))
        self.goes(made(("minus", "c", K2, "a", "b"), ("minus", "d", K2, "a", "b"), outs=("d",)), ("share", 1),
                  ("minus", "c", K2, "a", "b"), outs=("c",))
        self.stays(made(("minus", "c", K2, "a", "b"), ("minus", "d", K2, "b", "a")), ("share", 1))
        self.goes(made(times("c", -2, "a"), times("d", -2, "a"), outs=("d",)), ("share", 1), times("c", -2, "a"),
                  outs=("c",))
        self.stays(made(times("c", -2, "a"), times("d", 2, "a")), ("share", 1))
        self.stays(made(times("c", -2, "a"), times("d", -2, "b")), ("share", 1))
        self.stays(made(plus("c", "a", "b"), ("least", "d", K, "a", "b"), ("minus", "e", K, "a", "b")),
                   ("share", 1), ("share", 2))

    def test_the_first_of_several(self):
        program = made(plus("c", "a", "b"), plus("d", "b", "a", K2), plus("e", "a", "b"), outs=("e", "d"))
        self.goes(program, ("share", 2), *program[2][:2], outs=("c", "d"))
        self.goes(program, ("share", 1), program[2][0], program[2][2], outs=("e", "c"))
        # One in a block around, ahead of one in the block itself; but not one behind, or in the other arm.
        inner = made(fork([plus("f", "a", "b")], [plus("c", "b", "a")]), plus("d", "a", "b"),
                     fork([plus("e", "a", "b"), plus("g", "a", "b"), plus("h", "g", "e")], []))
        self.goes(inner, ("share", 6), *inner[2][:2], fork([plus("e", "a", "b"), plus("h", "d", "e")], []))
        self.goes(inner, ("share", 5), *inner[2][:2], fork([plus("g", "a", "b"), plus("h", "g", "d")], []))
        self.stays(inner, ("share", 1), ("share", 2), ("share", 3), ("share", 7), ("share", 0), ("share", 4))

    def test_to_the_end_of_the_block_and_in_arms_within(self):
        rest = (times("e", 2, "d"), fork([plus("f", "d", "e"), fork([], [plus("g", "d", "d")])], [times("f", 3, "d")],
                                         "d", "c"), fork([], [], "a", "d"))
        program = made(plus("c", "a", "b"), plus("d", "a", "b"), *rest, outs=("f", "d", "e"))
        self.goes(program, ("share", 1), program[2][0], times("e", 2, "c"),
                  fork([plus("f", "c", "e"), fork([], [plus("g", "c", "c")])], [times("f", 3, "c")], "c", "c"),
                  fork([], [], "a", "c"), outs=("f", "c", "e"))

    def test_a_name_that_is_given_anew_behind_the_arm_stays(self):
        program = made(plus("c", "a", "b"), fork([plus("d", "a", "b"), plus("e", "d", "a")], [plus("e", "a", "a")]),
                       times("d", 5, "a"), plus("f", "d", "e"), outs=("d", "f"))
        self.goes(program, ("share", 2), program[2][0], fork([plus("e", "c", "a")], [plus("e", "a", "a")]),
                  *program[2][2:])

    def test_a_name_that_is_known_behind_the_if(self):
        program = made(plus("c", "a", "b"), fork([plus("d", "a", "b")], [plus("d", "a", "a")]))
        self.stays(program, ("share", 2), ("share", 3))
        # Only one arm gives it in its own tuple.
        other = made(plus("c", "a", "b"), fork([plus("d", "a", "b")], [fork([plus("d", "a", "a")], [])]))
        self.goes(other, ("share", 2), other[2][0], fork([], other[2][1][4]))
        # Known behind the inner "if", but the block is one further out, whose "if" does not give it on.
        inner = fork([plus("d", "a", "b")], [plus("d", "b", "a")])
        nested = made(plus("c", "a", "b"), fork([inner, plus("e", "a", "b"), plus("f", "e", "d")], []))
        self.stays(nested, ("share", 3), ("share", 4))
        self.goes(nested, ("share", 5), nested[2][0], fork([inner, plus("f", "c", "d")], []))

    def test_kinds_may_differ(self):
        near = made(plus("c", "a", "b", K), plus("d", "a", "b", K2), outs=("d",))
        self.assertEqual(judge_alike(near, passed(near, ("share", 1)))[0], "alike")
        far = made(plus("c", "a", "b", K2), plus("d", "a", "b", K), outs=("d",))
        self.assertEqual(judge_alike(far, passed(far, ("share", 1)))[0], "parts")


class Drop(Asked):
    def test_a_name_that_stands_nowhere(self):
        program = made(plus("c", "a", "b"), times("d", 2, "c"), outs=("b",))
        self.goes(program, ("drop", 1), program[2][0])
        self.stays(program, ("drop", 0))
        for more in (made(plus("c", "a", "b"), outs=("a", "c")), made(plus("c", "a", "b"), fork([], [], "c", "a")),
                     made(plus("c", "a", "b"), fork([], [], "a", "c")), made(plus("c", "a", "b"), times("d", 0, "c")),
                     made(plus("c", "a", "b"), fork([], [fork([], [plus("d", "a", "c")])]))):
            self.stays(more, ("drop", 0))

    def test_whichever_statement_gives_it_there(self):
        # The name of the first arm is not known behind, and is given anew there.
        program = made(fork([plus("c", "a", "b")], []), times("c", 2, "a"), plus("d", "c", "c"))
        self.stays(program, ("drop", 1), ("drop", 2))
        self.goes(program, ("drop", 3), *program[2][:2])
        unread = made(fork([plus("c", "a", "b")], []), times("c", 2, "a"))
        self.goes(unread, ("drop", 1), fork([], []), unread[2][1])
        self.goes(unread, ("drop", 2), unread[2][0])
        # The arms stand one behind the other in the text: what the second one reads counts for the first one alone.
        arms = made(fork([plus("c", "a", "b"), times("d", 1, "c")], [plus("c", "a", "a")]))
        self.stays(arms, ("drop", 1))
        self.goes(arms, ("drop", 2), fork([plus("c", "a", "b")], [plus("c", "a", "a")]))
        self.goes(arms, ("drop", 3), fork(arms[2][0][3], []))
        later = made(fork([plus("c", "a", "b")], [plus("c", "a", "a"), times("d", 1, "c")]))
        self.stays(later, ("drop", 1), ("drop", 2))

    def test_joined_ones(self):
        program = made(fork([plus("c", "a", "b")], [plus("c", "a", "a")]), outs=("c",))
        self.stays(program, ("drop", 1), ("drop", 2), ("drop", 0))
        unread = made(fork([plus("c", "a", "b", K2)], [plus("c", "a", "a", K2)]))
        self.goes(unread, ("drop", 1), fork([], [plus("c", "a", "a", K2)]))
        self.goes(unread, ("drop", 2), fork([plus("c", "a", "b", K2)], []))


class Swap(Asked):
    def test_by_hand(self):
        one, other = plus("c", "a", "b"), ("least", "d", U, "b", "a")
        self.goes(made(one, other, outs=("c", "d")), ("swap", 0), other, one)
        reads = times("e", 2, "c")
        program = made(one, reads, other)
        self.stays(program, ("swap", 0), ("swap", 2))
        self.goes(program, ("swap", 1), one, other, reads)
        for word in ("plus", "minus", "least", "greatest"):
            for right in (("a", "c"), ("c", "a"), ("c", "c")):
                self.stays(made(one, (word, "d", K, *right)), ("swap", 0))
        self.goes(made(one, plus("d", "a", "a")), ("swap", 0), plus("d", "a", "a"), one)

    def test_ifs_and_ends_of_blocks(self):
        one, other = plus("c", "a", "b"), plus("d", "a", "a")
        program = made(one, fork([other], [plus("e", "b", "b"), plus("f", "b", "a")]), plus("g", "a", "a"))
        self.stays(program, ("swap", 0), ("swap", 1), ("swap", 2), ("swap", 4), ("swap", 5))
        self.goes(program, ("swap", 3), one, fork([other], [plus("f", "b", "a"), plus("e", "b", "b")]), program[2][2])
        self.assertEqual(judge_alike(program, passed(program, ("swap", 3)))[0], "alike")


class Hoist(Asked):
    def test_by_hand(self):
        one, two = plus("c", "a", "b"), times("d", 2, "c")
        program = made(fork([one, two], [one, times("d", 3, "c")]), outs=("d", "c"))
        self.goes(program, ("hoist", 0), one, fork([two], [times("d", 3, "c")]))
        self.goes(made(fork([one], [one])), ("hoist", 0), one, fork([], []))
        for arms in (([one], []), ([], [one]), ([], []), ([one], [plus("c", "b", "a")]), ([two[:3] + (2, "a")], [one]),
                     ([plus("e", "a", "b"), one], [one]), ([fork([], [])], [fork([], [])]),
                     ([fork([], []), one], [fork([], []), one]), ([one], [plus("e", "a", "b")])):
            self.stays(made(fork(*arms)), ("hoist", 0), ("hoist", 1))
        self.stays(made(one), ("hoist", 0))

    def test_within_arms(self):
        one = plus("c", "a", "b")
        program = made(fork([times("e", 2, "a"), fork([one], [one, plus("f", "c", "c")], "e", "a")], []))
        self.goes(program, ("hoist", 2), fork([times("e", 2, "a"), one, fork([], [plus("f", "c", "c")], "e", "a")], []))

    def test_results_that_are_no_programs(self):
        one = plus("c", "a", "b")
        inner = fork([one], [one])
        # Behind the outer "if" the name is given anew; or the second arm gives it, then with another kind.
        self.goes(made(fork([inner], [])), ("hoist", 1), fork([one, fork([], [])], []))
        self.goes(made(fork([inner], []), times("c", 2, "a")), ("hoist", 1), fork([one, fork([], [])], []),
                  times("c", 2, "a"))
        self.stays(made(fork([inner], [plus("c", "a", "a", K)]), times("c", 2, "a")), ("hoist", 1), ("sink", 1),
                   ("merge", 1))
        self.stays(made(fork([inner], [plus("c", "a", "a", K2)])), ("hoist", 1), ("sink", 1), ("merge", 1))
        self.goes(made(fork([inner], [plus("c", "a", "a", K)])), ("hoist", 1),
                  fork([one, fork([], [])], [plus("c", "a", "a", K)]))
        # Or the first arm gives it, and this is the second one.
        self.stays(made(fork([plus("c", "a", "a", K2)], [inner])), ("hoist", 2), ("sink", 2), ("merge", 2))


class Sink(Asked):
    def test_by_hand(self):
        one, two = plus("c", "a", "b"), times("d", 2, "a")
        program = made(fork([times("e", 1, "b"), one], [two, one]), outs=("c",))
        self.goes(program, ("sink", 0), fork([times("e", 1, "b")], [two]), one)
        self.goes(made(fork([one], [one])), ("sink", 0), fork([], []), one)
        for arms in (([one], []), ([], [one]), ([], []), ([one], [plus("c", "b", "a")]),
                     ([one, two], [one]), ([fork([], [])], [fork([], [])]), ([one, fork([], [])], [one, fork([], [])])):
            self.stays(made(fork(*arms)), ("sink", 0), ("sink", 1))
        self.stays(made(one), ("sink", 0))

    def test_names_on_the_right(self):
        last = plus("d", "c", "a")
        # Both arms give c in their own tuples, or just one of them does, or each within an arm.
        self.goes(made(fork([plus("c", "a", "b"), last], [plus("c", "b", "b"), last]), outs=("d",)), ("sink", 0),
                  fork([plus("c", "a", "b")], [plus("c", "b", "b")]), last)
        inner = fork([plus("c", "a", "b")], [plus("c", "b", "b")])
        self.stays(made(fork([plus("c", "a", "b"), last], [inner, last])), ("sink", 0))
        self.stays(made(fork([inner, last], [inner, last])), ("sink", 0))
        ahead = made(plus("c", "a", "b"), fork([last], [times("e", 2, "c"), last]))
        self.goes(ahead, ("sink", 1), ahead[2][0], fork([], [times("e", 2, "c")]), last)


class Merge(Asked):
    def test_by_hand(self):
        arm = [plus("c", "a", "b"), fork([times("d", 2, "c")], []), ("least", "e", K, "a", "c")]
        program = made(plus("z", "a", "a"), fork(arm, arm, "z", "b"), times("f", 1, "e"), outs=("e", "c"))
        self.goes(program, ("merge", 1), program[2][0], *arm, program[2][2])
        self.goes(made(fork([], []), plus("c", "a", "a")), ("merge", 0), plus("c", "a", "a"))
        self.goes(made(fork([fork([], [])], [])), ("merge", 1), fork([], []))
        for other in (arm[:2], arm[::2], [*arm, plus("g", "a", "a")], [plus("c", "b", "a"), *arm[1:]],
                      [plus("c", "a", "b", K), fork([], [times("d", 2, "c")]), arm[2]]):
            self.stays(made(fork(arm, other)), ("merge", 0))
        self.stays(made(plus("c", "a", "b")), ("merge", 0))

    def test_results_that_are_no_programs(self):
        inner = fork([plus("c", "a", "b")], [plus("c", "b", "b")])
        # c is not known behind the outer "if"; without it, it is, and cannot be given anew.
        self.stays(made(fork([inner], [inner]), times("c", 2, "a")), ("merge", 0))
        self.goes(made(fork([inner], [inner]), times("d", 2, "a")), ("merge", 0), inner, times("d", 2, "a"))


class Widen(Asked):
    def test_by_hand(self):
        kinds = [(word, k) for word in ("both", "up") for k in (1, 2, 3, 30)]
        for kind in kinds:
            program = made(plus("c", "a", "b", kind), outs=("c",))
            for other in kinds:
                if other[1] >= kind[1] and (other[0] == "both" or kind[0] == "up"):
                    self.goes(program, ("widen", 0, other), plus("c", "a", "b", other))
                else:
                    self.stays(program, ("widen", 0, other))
        self.stays(made(fork([], [])), ("widen", 0, ("both", 30)))

    def test_joined_ones(self):
        program = made(fork([plus("c", "a", "b")], [plus("c", "a", "a"), fork([], [plus("d", "c", "c")])]))
        self.stays(program, ("widen", 1, K2), ("widen", 2, K2))
        self.goes(program, ("widen", 1, K), *program[2])
        self.goes(program, ("widen", 4, K3), fork([plus("c", "a", "b")],
                                                  [plus("c", "a", "a"), fork([], [plus("d", "c", "c", K3)])]))


class Tidied(Asked):
    def test_by_hand(self):
        self.assertEqual(tidied(P), (INS, (), P[2][:1], ("s", "s")))
        self.assertEqual(tidied(made(plus("c", "a", "b"), times("d", 2, "c"), plus("e", "d", "d"))), made())
        self.assertEqual(tidied(made()), made())
        # The arms grow equal by shares and drops; then they are merged; then the outer ones.
        program = made(plus("c", "a", "b"), fork([plus("d", "a", "b"), times("e", 2, "d")],
                                                 [times("e", 2, "c"), fork([], [])]), outs=("e",))
        self.assertEqual(tidied(program), made(plus("c", "a", "b"), times("e", 2, "c"), outs=("e",)))

    def test_the_order_of_words(self):
        # Both "share" at 2 and "drop" at 1 go: "share" is first, then c stands nowhere.
        program = made(plus("c", "a", "b", K), plus("d", "a", "b", K2), plus("e", "a", "b", K3), outs=("e",))
        self.assertEqual(tidied(program), made(plus("c", "a", "b", K), outs=("c",)))
        again = made(plus("d", "a", "b", K2), fork([plus("c", "a", "b")], [plus("c", "a", "b")]), outs=("c",))
        self.assertEqual(tidied(again), made(plus("d", "a", "b", K2), outs=("d",)))
        kept = made(fork([plus("c", "a", "b"), plus("d", "a", "b", K2)], [plus("d", "b", "a", K2)]), outs=("d",))
        self.assertEqual(tidied(kept), made(fork([plus("d", "a", "b", K2)], [plus("d", "b", "a", K2)]), outs=("d",)))

    def test_as_the_passes_themselves(self):
        seen = 0
        for seed in range(80):
            program = Twins(seed).program()
            found = program
            while True:
                steps = [(word, number) for word in ("merge", "share", "drop")
                         for number in range(statement_count(found)) if does_go(found, (word, number))]
                if not steps:
                    break
                seen += 1
                found = passed(found, steps[0])
            self.assertEqual(tidied(program), found)
        self.assertGreater(seen, 100)


class Twins(Maker):
    """Programs in which much is said twice: equal statements, equal arms, arms that begin or end alike."""

    def __init__(self, seed, ins=3, most=9):
        super().__init__(seed, wide=2, far=2, ins=ins, most=most)
        self.before = []

    def program(self):
        while True:
            self.before = []
            found = super().program()
            if is_program(found) and len(statements(found)) <= 12 and len(ways(found, 4)) <= 4:
                return found

    def giving(self, known, asked):
        item = super().giving(known, asked)
        same = [old for old in self.before if all(name in known for name in old[3:] if type(name) is str)]
        if same and self.rand.randrange(3) == 0:
            word, _, _, one, other = self.rand.choice(same)
            if word in ("plus", "least", "greatest") and self.rand.randrange(2):
                one, other = other, one
            item = (word, item[1], item[2], one, other)
        self.before.append(item)
        return item

    def choice(self, known):
        (word, small, large, then, other), more = super().choice(known)
        shape = self.rand.randrange(5)
        if shape == 0:
            other = then
        if shape == 1 and then:
            other = then[:1] + tuple(item for item in other if item[1] != then[0][1])
        if shape == 2 and then:
            other = tuple(item for item in other if item[1] != then[-1][1]) + then[-1:]
        names = {item[1] for item in other if item[0] != "if"}
        return (word, small, large, then, other), {item[1]: item[2] for item in then
                                                   if item[0] != "if" and item[1] in names}


class ManyPrograms(Asked):
    def test_results_refine_and_are_alike_where_it_is_said(self):
        seen = dict.fromkeys((*WORDS, "widen"), 0)
        rand = random.Random(81)
        for seed in range(400):
            program = Twins(seed).program()
            for number in range(statement_count(program)):
                found = passes_at(program, number)
                self.assertEqual(list(found), sorted(found))
                self.assertEqual(found, tuple((word, number) for word in WORDS if does_go(program, (word, number))))
                kind = (rand.choice(("both", "up")), rand.randint(1, 3))
                for step in (*found, ("widen", number, kind)):
                    if does_go(program, step):
                        seen[step[0]] += 1
                        self.checked(program, step)
        self.assertGreater(min(seen.values()), 25, seen)

    def test_as_on_the_lines_of_texts(self):
        seen = {}
        rand = random.Random(82)
        for seed in range(300):
            program = Twins(seed).program() if seed % 3 else Maker(seed, wide=2, far=2, ins=2, most=12).program()
            for number in range(-1, statement_count(program) + 1):
                kind = (rand.choice(("both", "up")), rand.randint(1, 3))
                for step in (*[(word, number) for word in WORDS], ("widen", number, kind)):
                    found = text_passes.done(program, step)
                    seen[step[0], found is None] = seen.get((step[0], found is None), 0) + 1
                    self.assertIs(does_go(program, step), found is not None, (program, step))
                    if found is not None:
                        self.assertEqual(passed(program, step), found)
        self.assertEqual(len(seen), 14)
        self.assertGreater(min(seen.values()), 10)

    def is_narrower(self, program, number):
        """Whether all statements ahead that reckon the same have kinds that lie within the one's."""
        items = statements(program)
        word, _, kind, *right = items[number]
        same = [item for item in items[:number] if item[0] == word and sorted(map(str, item[3:])) == sorted(map(str, right))]
        return all(is_kind_within(item[2], kind) for item in same)

    def checked(self, program, step):
        result = passed(program, step)
        self.assertTrue(is_program(result))
        self.assertEqual(result[:2], program[:2])
        self.assertTrue(does_refine(program, result), (program, step))
        self.assertLess(width_of(program), 8)
        if step[0] in ("swap", "hoist", "sink", "merge") or step[0] == "share" and self.is_narrower(program, step[1]):
            self.assertTrue(does_refine(result, program), (program, step))
        for given in all_given(program, 1):
            self.assertFalse(do_part(program, result, 1, given))


class WrongInputs(unittest.TestCase):
    def test_programs(self):
        for x in (*ANY_VALUES, list(P), P[:3], (*P[:3], ("x",))):
            for call in (does_go, passed, passes_at):
                self.assertIs(caught(BadProgram, call, x, None), x)
            self.assertIs(caught(BadProgram, tidied, x), x)

    def test_passes(self):
        for x in (*ANY_VALUES, ("share",), ("share", True), ("share", "0"), ["share", 0], ("share", 0, K), ("Share", 0),
                  ("widen", 0), ("widen", 0, None), ("widen", 0, ("both", 0)), ("widen", 0, ["both", 1]),
                  ("widen", None, K), ("widen", 0, K, K), (["share"], 0), ({}, 0), ("share", None), (None, 0)):
            for call in (does_go, passed):
                self.assertIs(caught(BadPass, call, P, x), x)

    def test_numbers(self):
        for word in WORDS:
            for number in (-1, 2, 24, 10 ** 99, -10 ** 99):
                self.assertIs(does_go(P, (word, number)), False)
                self.assertEqual(caught(NoPlace, passed, P, (word, number)), number)
                self.assertEqual(caught(NoPlace, passed, P, ("widen", number, K)), number)
        for x in (*ANY_VALUES, -1, 2, "0", [0], (0,)):
            if type(x) is not int or x not in (0, 1):
                self.assertIs(caught(BadNumber, passes_at, P, x), x)
        self.assertEqual(caught(BadNumber, passes_at, made(), 0), 0)

    def test_functions_are_defined_there(self):
        for name in ("does_go", "passed", "passes_at", "tidied"):
            self.assertEqual(getattr(module, name).__module__, "tripmeans.passes")


if __name__ == "__main__":
    unittest.main()
