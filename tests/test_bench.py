"""Part 12: benches, promises and their faults, edits and deals, undone and done again, and texts."""

import copy
import random
import unittest

from later_words import apart, is_bench_fault
from support import ANY_VALUES, BENCH, Maker, caught, changed_once
from tripmeans import bench as module
from tripmeans.bench import Bench, fault_holds
from tripmeans.errors import (BadEdit, BadName, BadNumber, BadPass, BadPromise, BadRule, BadText, InUse, NameTaken, NoName,
                              NoPlace, NoPromise, NothingToRedo, NothingToUndo, Unkept)
from tripmeans.passes import passed, passes_at
from tripmeans.programs import statement_count
from tripmeans.rules import done_at
from tripmeans.texts import program_text
from words import changed_program, ways

K, U = ("both", 1), ("up", 1)
K2 = ("both", 2)
INS = (("a", K), ("b", K))
P = (INS, (), (("plus", "s", K2, "a", "b"), ("plus", "t", K, "b", "a")), ("t", "s"))
SHARED = (INS, (), P[2][:1], ("s", "s"))
FORK = (INS, (), (("plus", "c", K2, "a", "b"), ("if", "a", "b", (("if", "b", "a", (), ()),), ())), ("c", "c"))
ONE = (INS, (), (), ("a",))
TRIPS = (INS, (), (("plus", "c", K, "a", "b"),), ("c",))
TURN = ((INS, (), (("plus", "v", K2, "a", "b"),), ("v",)), (INS, (), (("plus", "v", K2, "b", "a"),), ("v",)))
WRONG = (TURN[0], (INS, (), (("plus", "v", K2, "a", "a"),), ("v",)))
REFINES = ("refines", "p", "old")
NO_LABELS = tuple(x for x in (*ANY_VALUES, "", "A", "a1", "a b", "abcdefghi", "p\n") if x not in ("a", "in", "point", "weights"))


def made(**programs):
    found = Bench()
    for label, program in programs.items():
        found.edit(("put", label, program))
    return found


def example():
    found = made(p=P)
    found.edit(("copy", "p", "old"))
    found.edit(("promise", REFINES))
    return found


class Asked(unittest.TestCase):
    def same(self, bench, state):
        self.assertEqual(told(bench), state)

    def refused(self, bench, error, call, *given):
        """Asks for an error, behind which nothing is changed; returns what it carries."""
        before = told(bench)
        found = caught(error, call, *given)
        self.same(bench, before)
        return found


def told(bench):
    """All that can be seen of a bench, also what can be done again."""
    ahead = bench.copy()
    undone = 0
    while True:
        try:
            ahead.redo()
        except NothingToRedo:
            break
        undone += 1
    back = bench.copy()
    past = []
    while True:
        try:
            back.undo()
        except NothingToUndo:
            break
        past.append(str(back))
    return (bench.labels(), [bench.program(label) for label in bench.labels()], bench.promises(), bench.deals(), str(bench),
            undone, str(ahead), ahead.deals(), past)


class Examples(Asked):
    def test_by_hand(self):
        k = example()
        k.edit(("pass", "p", ("share", 1)))
        self.assertEqual(k.program("p"), SHARED)
        self.assertIs(fault_holds(k, ("alike", "p", "old"), ("apart", 1, (1, 1))), True)
        self.assertEqual(k.judged(("alike", "p", "old"))[0], "apart")
        with self.assertRaises(Unkept) as found:
            k.edit(("promise", ("refines", "old", "p")))
        self.assertEqual(found.exception.promise, ("refines", "old", "p"))
        self.assertIs(fault_holds(k, found.exception.promise, found.exception.fault), True)
        self.assertEqual(self.refused(k, NoPlace, k.edit, ("pass", "p", ("drop", 0))), 0)
        self.assertEqual(self.refused(k, InUse, k.edit, ("drop", "old")), "old")

    def test_an_empty_bench(self):
        k = Bench()
        self.assertEqual((k.labels(), k.promises(), k.deals(), str(k)), ((), (), (), "bench"))
        self.assertIsNone(caught(NothingToUndo, k.undo))
        self.assertIsNone(caught(NothingToRedo, k.redo))
        self.assertTrue(k == Bench() and k == k.copy())

    def test_what_returns_nothing(self):
        k = Bench()
        for found in (k.edit(("put", "p", P)), k.deal(()), k.undo(), k.redo()):
            self.assertIsNone(found)


class Equality(Asked):
    def test_by_hand(self):
        k = example()
        other = made(old=P, p=P)
        self.assertFalse(k == other)
        other.edit(("promise", REFINES))
        self.assertTrue(k == other and other == k)
        self.assertIs(k == other, True)
        self.assertFalse(k != other)
        other.edit(("put", "p", SHARED))
        self.assertIs(k == other, False)
        k.edit(("put", "p", SHARED))
        self.assertTrue(k == other)
        # Promises count in their order, deals do not count.
        promises = (("straight", "p"), ("straight", "old"))
        for bench, order in ((k, promises), (other, promises[::-1])):
            for promise in order:
                bench.edit(("promise", promise))
        self.assertFalse(k == other)
        other.edit(("release", promises[0]))
        other.edit(("release", promises[1]))
        other.deal(tuple(("promise", promise) for promise in promises))
        self.assertTrue(k == other)

    def test_any_values(self):
        for thing in ANY_VALUES:
            self.assertIs(example() == thing, False)
            self.assertIs(thing == example(), False)
            self.assertIs(BENCH == thing, thing is BENCH)
        self.assertIs(Bench() == "bench", False)

    def test_copies(self):
        k = example()
        k.undo()
        other = k.copy()
        self.assertTrue(k == other and k is not other)
        self.assertEqual(told(other), told(k))
        before = told(k)
        other.redo()
        other.edit(("put", "q", ONE))
        other.undo()
        other.undo()
        other.undo()
        self.same(k, before)
        middle = told(other)
        k.redo()
        k.deal(())
        self.same(other, middle)
        self.assertEqual(other.labels(), ("p",))


class Promises(Asked):
    def fault(self, k, promise):
        """What is judged of a promise, checked by the document's words."""
        programs = {label: k.program(label) for label in k.labels()}
        found = k.judged(promise)
        if found != ("kept",):
            self.assertTrue(is_bench_fault(programs, promise, found), (promise, found))
            self.assertIs(fault_holds(k, promise, found), True)
            for thing in changed_once(found):
                self.assertIs(fault_holds(k, promise, thing), is_bench_fault(programs, promise, thing))
        for thing in (*ANY_VALUES, ("kept",), ("unlike",), ("if", 0), ("if", 1), ("trips", 1, (1, 1)), ("apart", 1, (1, 1)),
                      ("parts", 1, (1, 1)), ("refines", ()), ("trips", 1, None), ("apart", None, (1, 1)), ("if", True)):
            self.assertIs(fault_holds(k, promise, thing), is_bench_fault(programs, promise, thing))
        return found[0]

    def test_by_hand(self):
        k = made(p=SHARED, old=P, fork=FORK, one=ONE, trips=TRIPS)
        for promise, word in (
                (("refines", "p", "old"), "kept"), (("refines", "old", "p"), "parts"), (("alike", "p", "old"), "apart"),
                (("alike", "p", "fork"), "kept"), (("alike", "fork", "p"), "kept"), (("refines", "fork", "p"), "kept"),
                (("alike", "old", "p"), "apart"), (("refines", "p", "p"), "kept"), (("alike", "old", "old"), "kept"),
                (("refines", "one", "p"), "unlike"), (("alike", "one", "p"), "unlike"), (("alike", "p", "one"), "unlike"),
                (("refines", "p", "one"), "unlike"), (("refines", "one", "trips"), "parts"),
                (("refines", "trips", "one"), "parts"), (("alike", "trips", "one"), "apart"),
                (("never trips", "p"), "kept"), (("never trips", "old"), "trips"), (("never trips", "one"), "kept"),
                (("never trips", "trips"), "trips"), (("never trips", "fork"), "kept"), (("straight", "p"), "kept"),
                (("straight", "one"), "kept"), (("straight", "fork"), "if")):
            self.assertEqual(self.fault(k, promise), word, promise)
        self.assertEqual(k.judged(("straight", "fork")), ("if", 1))

    def test_unlike_ones(self):
        k = made(p=P, ins=(INS[::-1], *P[1:]), kinds=((("a", K2), INS[1]), *P[1:]), facts=(INS, (("a", "b"),), *P[2:]),
                 outs=(*P[:3], ("s",)))
        for label in ("ins", "kinds", "facts", "outs"):
            for word in ("refines", "alike"):
                for promise in ((word, "p", label), (word, label, "p")):
                    self.assertEqual(self.fault(k, promise), "unlike")

    def test_apart_either_way(self):
        # Both end with unlike outs, or one of them trips: whichever.
        k = made(p=(*P[:3], ("a",)), q=(*P[:3], ("b",)), r=(INS, (), (), ("a",)))
        for promise in (("alike", "p", "q"), ("alike", "q", "p"), ("alike", "p", "r"), ("alike", "r", "p")):
            self.assertEqual(self.fault(k, promise), "apart")
        for promise in (("alike", "p", "r"), ("alike", "r", "p")):
            self.assertIs(fault_holds(k, promise, ("apart", 1, (1, 1))), True)
            self.assertIs(fault_holds(k, promise, ("apart", 1, (1, 0))), False)
            self.assertIs(fault_holds(k, promise, ("apart", 1, (2, 0))), False)
        self.assertIs(fault_holds(k, ("refines", "p", "r"), ("parts", 1, (1, 1))), True)
        self.assertIs(fault_holds(k, ("refines", "r", "p"), ("parts", 1, (1, 1))), False)

    def test_the_first_if(self):
        k = made(p=(INS, (), (P[2][0], FORK[2][1], ("if", "a", "b", (), ())), ("a",)))
        self.assertEqual(k.judged(("straight", "p")), ("if", 1))
        for number, right in ((1, True), (0, False), (2, False), (3, False), (True, False)):
            self.assertIs(fault_holds(k, ("straight", "p"), ("if", number)), right)

    def test_what_is_no_promise(self):
        k = made(p=P, q=ONE)
        for thing in (*ANY_VALUES, ("refines", "p"), ("refines", "p", "q", "p"), ("refines", "p", "x"), ("alike", "x", "p"),
                      ("straight", "p", "p"), ("straight", "x"), ("straight",), ["straight", "p"], ("never", "p"),
                      ("never trips", "p", "q"), ("never trips", ["p"]), ("Straight", "p"), ("straight", None),
                      ("straight", BENCH), (["straight"], "p"), ("alike", ("p",), "q"), (None, "p"), ("refines", "p", {})):
            self.assertIs(self.refused(k, BadPromise, k.judged, thing), thing)
            self.assertIs(self.refused(k, BadPromise, k.edit, ("promise", thing)), thing)
            self.assertIs(self.refused(k, NoPromise, k.edit, ("release", thing)), thing)
            for fault in (("unlike",), ("trips", 1, (1, 1)), None):
                self.assertIs(fault_holds(k, thing, fault), False)

    def test_made_at_will(self):
        rand = random.Random(121)
        words = {}
        for seed in range(120):
            one = Maker(seed, wide=2, far=2, ins=2, most=4).program()
            other = changed_program(rand, one)
            if len(ways(one, 4)) * len(ways(other, 4)) > 16:
                continue
            k = made(p=one, q=other)
            for promise in (("refines", "p", "q"), ("alike", "p", "q"), ("never trips", "q"), ("straight", "p")):
                found = k.judged(promise)
                words[found[0]] = words.get(found[0], 0) + 1
                self.assertTrue(found == ("kept",) or is_bench_fault({"p": one, "q": other}, promise, found))
                self.assertIs(fault_holds(k, promise, found), found != ("kept",))
                if found[0] == "apart":
                    self.assertTrue(apart(one, other, *found[1:]))
        self.assertGreater(min(words.values()), 8)


class Edits(Asked):
    def test_put(self):
        k = made(p=P)
        k.edit(("put", "p", ONE))
        self.assertEqual((k.labels(), k.program("p")), (("p",), ONE))
        for label in ("in", "out", "program", "zzzzzzzz", "a"):
            k.edit(("put", label, P))
            self.assertEqual(k.program(label), P)
        for label in NO_LABELS:
            self.assertIs(self.refused(k, BadName, k.edit, ("put", label, P)), label)

    def test_drop(self):
        k = example()
        for label in (*ANY_VALUES, "x", ["p"], "P"):
            self.assertIs(self.refused(k, NoName, k.edit, ("drop", label)), label)
        for label in ("p", "old"):
            self.assertEqual(self.refused(k, InUse, k.edit, ("drop", label)), label)
        k.edit(("copy", "p", "q"))
        k.edit(("drop", "q"))
        self.assertEqual(k.labels(), ("old", "p"))
        k.edit(("release", REFINES))
        k.edit(("drop", "p"))
        self.assertEqual(k.labels(), ("old",))
        k.edit(("promise", ("straight", "old")))
        self.assertEqual(self.refused(k, InUse, k.edit, ("drop", "old")), "old")

    def test_copy(self):
        k = made(p=P, q=ONE)
        for label in (*ANY_VALUES, "x", ["p"]):
            self.assertIs(self.refused(k, NoName, k.edit, ("copy", label, None)), label)
        for label in NO_LABELS:
            self.assertIs(self.refused(k, BadName, k.edit, ("copy", "p", label)), label)
        for label in ("p", "q"):
            self.assertEqual(self.refused(k, NameTaken, k.edit, ("copy", "p", label)), label)
        k.edit(("copy", "p", "r"))
        self.assertEqual((k.labels(), k.program("r")), (("p", "q", "r"), P))
        k.edit(("pass", "r", ("share", 1)))
        self.assertEqual((k.program("p"), k.program("r")), (P, SHARED))

    def test_pass(self):
        k = made(p=P)
        for label in (*ANY_VALUES, "x", ["p"]):
            self.assertIs(self.refused(k, NoName, k.edit, ("pass", label, None)), label)
        for step in (*ANY_VALUES, ("share", True), ("widen", 0), ["share", 1]):
            self.assertIs(self.refused(k, BadPass, k.edit, ("pass", "p", step)), step)
        for step in (("share", 0), ("drop", 1), ("hoist", 5), ("merge", -1), ("widen", 0, K)):
            self.assertEqual(self.refused(k, NoPlace, k.edit, ("pass", "p", step)), step[1])
        k.edit(("pass", "p", ("widen", 1, K2)))
        k.edit(("pass", "p", ("swap", 0)))
        self.assertEqual(k.program("p"), passed(passed(P, ("widen", 1, K2)), ("swap", 0)))

    def test_rule(self):
        k = made(p=P)
        for label in (*ANY_VALUES, "x", ["p"]):
            self.assertIs(self.refused(k, NoName, k.edit, ("rule", label, None, None)), label)
        for rule in (*ANY_VALUES, TURN[:1], list(TURN), P):
            self.assertIs(self.refused(k, BadRule, k.edit, ("rule", "p", rule, None)), rule)
        for number in (*ANY_VALUES, 2, -1, "0"):
            if type(number) is not int or number not in (0, 1):
                self.assertIs(self.refused(k, BadNumber, k.edit, ("rule", "p", TURN, number)), number)
        self.assertEqual(self.refused(k, NoPlace, k.edit, ("rule", "p", TURN, 1)), 1)
        k.edit(("rule", "p", TURN, 0))
        self.assertEqual(k.program("p"), done_at(P, TURN, 0))
        k.edit(("rule", "p", WRONG, 0))
        self.assertEqual(k.program("p")[2][0], ("plus", "s", K2, "b", "b"))

    def test_a_wrong_rule_breaks_a_promise(self):
        k = example()
        self.assertEqual(self.refused(k, Unkept, k.edit, ("rule", "p", WRONG, 0)), REFINES)
        k.edit(("rule", "p", TURN, 0))
        self.assertEqual(k.program("p"), done_at(P, TURN, 0))

    def test_promise_and_release(self):
        k = example()
        self.assertEqual(self.refused(k, BadPromise, k.edit, ("promise", REFINES)), REFINES)
        k.edit(("promise", ("straight", "p")))
        k.edit(("promise", ("alike", "p", "p")))
        self.assertEqual(k.promises(), (REFINES, ("straight", "p"), ("alike", "p", "p")))
        k.edit(("release", ("straight", "p")))
        self.assertEqual(k.promises(), (REFINES, ("alike", "p", "p")))
        self.assertEqual(self.refused(k, NoPromise, k.edit, ("release", ("straight", "p"))), ("straight", "p"))
        k.edit(("promise", ("straight", "p")))
        self.assertEqual(k.promises()[-1], ("straight", "p"))
        self.assertEqual(self.refused(k, Unkept, k.edit, ("promise", ("never trips", "p"))), ("never trips", "p"))

    def test_what_is_no_edit(self):
        k = example()
        for thing in (*ANY_VALUES, ("put", "q"), ("put", "q", None), ("put", None, list(P)), ("put", "q", P, 1), ["drop", "p"],
                      ("drop",), ("drop", "p", "q"), ("copy", "p"), ("pass", "p"), ("pass", "p", ("share", 1), 1),
                      ("rule", "p", TURN), ("promise",), ("promise", 1, 2), ("release",), ("Put", "q", P), (["put"], "q", P),
                      ("undo",), (None, "q", P), ({}, "p"), (BENCH, "p"), ("put", "q", BENCH)):
            self.assertEqual(self.refused(k, BadEdit, k.edit, thing), 0)
            self.assertEqual(self.refused(k, BadEdit, k.deal, (thing,)), 0)
            self.assertEqual(self.refused(k, BadEdit, k.deal, (("copy", "p", "q"), thing, None)), 1)

    def test_the_error_of_an_edit_comes_ahead_of_unkept_promises(self):
        k = example()
        self.assertIs(self.refused(k, BadName, k.edit, ("put", "P", ONE)), "P")
        self.assertEqual(self.refused(k, Unkept, k.edit, ("put", "p", ONE)), REFINES)


class Deals(Asked):
    def test_promises_need_not_be_kept_in_the_midst(self):
        k = example()
        deal = (("put", "p", ONE), ("put", "old", ONE))
        self.assertEqual(self.refused(k, Unkept, k.edit, deal[0]), REFINES)
        k.deal(deal)
        self.assertEqual((k.program("p"), k.deals()[-1]), (ONE, deal))
        k.deal((("put", "p", P), ("promise", ("never trips", "p")), ("put", "p", ONE)))
        self.assertEqual(k.promises(), (REFINES, ("never trips", "p")))
        k.deal((("release", REFINES), ("drop", "old"), ("put", "old", P), ("put", "p", SHARED), ("promise", REFINES)))
        self.assertEqual(k.promises(), (("never trips", "p"), REFINES))

    def test_the_first_promise_that_is_not_kept(self):
        k = made(p=P, q=P, fork=FORK)
        for promise in (("straight", "q"), ("refines", "q", "p"), ("alike", "p", "q"), ("straight", "p")):
            k.edit(("promise", promise))
        for edits, promise in (((("put", "p", FORK),), ("refines", "q", "p")), ((("put", "q", SHARED),), ("alike", "p", "q")),
                               ((("put", "q", FORK),), ("straight", "q")), ((("put", "p", SHARED),), ("refines", "q", "p")),
                               ((("put", "p", FORK), ("put", "q", SHARED)), ("straight", "p")),
                               ((("promise", ("straight", "fork")), ("promise", ("never trips", "p"))), ("straight", "fork")),
                               ((("promise", ("never trips", "p")), ("put", "q", FORK)), ("straight", "q"))):
            before = told(k)
            with self.assertRaises(Unkept) as found:
                k.deal(edits)
            self.assertEqual(found.exception.promise, promise)
            ahead = made(**{label: k.program(label) for label in k.labels()})
            for edit in edits:
                if edit[0] == "put":
                    ahead.edit(edit)
            self.assertIs(fault_holds(ahead, promise, found.exception.fault), True)
            self.same(k, before)

    def test_no_edits(self):
        k = Bench()
        k.deal(())
        k.deal(())
        self.assertEqual(k.deals(), ((), ()))
        k.undo()
        self.assertEqual(k.deals(), ((),))
        k.deal(())
        self.assertIsNone(caught(NothingToRedo, k.redo))
        self.assertEqual(k.deals(), ((), ()))
        self.assertTrue(k == Bench())

    def test_what_is_no_deal(self):
        k = example()
        for thing in ANY_VALUES:
            if type(thing) is not tuple:
                self.assertEqual(self.refused(k, BadEdit, k.deal, thing), -1)
        self.assertEqual(self.refused(k, BadEdit, k.deal, [("put", "q", P)]), -1)
        self.assertEqual(self.refused(k, BadEdit, k.deal, ("drop", "p")), 0)

    def test_deals_that_raise_at_a_later_edit(self):
        k = example()
        good = ("put", "q", P)
        for bad in (("drop", "x"), ("drop", "p"), ("copy", "q", "p"), ("pass", "q", ("share", 0)), ("rule", "q", TURN, 1),
                    ("rule", "q", None, 0), ("promise", REFINES), ("release", ("straight", "p")), ("put", "Q", P), None,
                    ("pass", "q", None), ("promise", ("straight", "r"))):
            self.assertEqual(self.refused(k, BadEdit, k.deal, (good, bad)), 1)
            self.assertEqual(self.refused(k, BadEdit, k.deal, (good, good, bad, ("drop", "x"), None)), 2)
        # Right behind what is ahead of it, and only there.
        k.deal((good, ("pass", "q", ("share", 1)), ("drop", "q")))
        self.assertEqual(self.refused(k, BadEdit, k.deal, (("pass", "q", ("share", 1)), good)), 0)
        # An edit that cannot be made comes ahead of promises that are not kept.
        self.assertEqual(self.refused(k, BadEdit, k.deal, (("put", "p", ONE), ("drop", "x"))), 1)

    def test_deals_are_told(self):
        k = Bench()
        deals = ((("put", "p", P),), (("copy", "p", "old"), ("promise", REFINES)), (), (("pass", "p", ("share", 1)),))
        k.edit(deals[0][0])
        k.deal(deals[1])
        k.deal(deals[2])
        k.edit(deals[3][0])
        self.assertEqual(k.deals(), deals)

    def test_eight_edits(self):
        k = Bench()
        edits = tuple(("put", label, P) for label in "abcdefgh")
        k.deal(edits)
        self.assertEqual(k.labels(), tuple("abcdefgh"))
        k.deal(tuple(("promise", ("refines", "a", label)) for label in "abcdefgh"))
        self.assertEqual(len(k.promises()), 8)
        k.undo()
        k.undo()
        self.assertTrue(k == Bench())


class Undone(Asked):
    def test_by_hand(self):
        k = example()
        before = str(k)
        k.edit(("pass", "p", ("share", 1)))
        after = str(k)
        k.undo()
        self.assertEqual((str(k), len(k.deals())), (before, 3))
        k.redo()
        self.assertEqual((str(k), len(k.deals())), (after, 4))
        for _ in range(4):
            k.undo()
        self.assertTrue(k == Bench())
        self.assertIsNone(caught(NothingToUndo, k.undo))
        for _ in range(4):
            k.redo()
        self.assertEqual(str(k), after)
        self.assertIsNone(caught(NothingToRedo, k.redo))

    def test_another_deal_in_between(self):
        k = example()
        k.undo()
        k.undo()
        k.edit(("put", "q", ONE))
        self.assertIsNone(caught(NothingToRedo, k.redo))
        self.assertEqual((k.labels(), len(k.deals())), (("p", "q"), 2))
        # A deal that is not done leaves what can be done again.
        k.undo()
        for call, given in ((k.edit, ("drop", "x")), (k.edit, None), (k.deal, None), (k.deal, (None,)),
                            (k.edit, ("promise", ("never trips", "p"))), (k.judged, None), (k.program, "x")):
            with self.assertRaises(Exception):
                call(given)
        k.redo()
        self.assertEqual(k.labels(), ("p", "q"))

    def test_made_at_will(self):
        rand = random.Random(122)
        done = 0
        for seed in range(40):
            k, states, at = Bench(), ["bench"], 0
            for _ in range(25):
                turn = rand.randrange(6)
                if turn == 0 and at:
                    k.undo()
                    at -= 1
                elif turn == 1 and at + 1 < len(states):
                    k.redo()
                    at += 1
                elif turn == 2:
                    k = k.copy()
                else:
                    try:
                        k.deal(deal_at_will(rand, k))
                    except (BadEdit, Unkept):
                        self.assertEqual(str(k), states[at])
                        continue
                    done += 1
                    at += 1
                    states[at:] = [str(k)]
                self.assertEqual(str(k), states[at])
                self.assertEqual(len(k.deals()), at)
                self.assertTrue(Bench.read(str(k)) == k)
                for promise in k.promises():
                    self.assertEqual(k.judged(promise), ("kept",))
        self.assertGreater(done, 150)


def deal_at_will(rand, bench):
    labels = ("a", "in", "program")
    edits = []
    for _ in range(rand.randint(0, 3)):
        one, other = rand.choice(labels), rand.choice(labels)
        promise = rand.choice((("refines", one, other), ("alike", one, other), ("never trips", one), ("straight", one)))
        program = rand.choice((P, SHARED, FORK, ONE, TRIPS))
        steps = [step for label in bench.labels() for number in range(statement_count(bench.program(label)))
                 for step in passes_at(bench.program(label), number)] or [("drop", 0)]
        edits.append(rand.choice((("put", one, program), ("put", one, P), ("drop", one), ("copy", one, other),
                                  ("pass", one, rand.choice(steps)), ("rule", one, rand.choice((TURN, WRONG)), 0),
                                  ("promise", promise), ("promise", promise), ("release", promise))))
    return tuple(edits)


class Texts(Asked):
    def test_by_hand(self):
        k = example()
        k.edit(("pass", "p", ("share", 1)))
        k.deal((("promise", ("straight", "p")), ("promise", ("never trips", "p")), ("promise", ("alike", "old", "old"))))
        text = "\n".join(["bench", "program old", *program_text(P).split("\n"), "program p",
                          *program_text(SHARED).split("\n"), "refines p old", "straight p", "never trips p", "alike old old"])
        self.assertEqual(str(k), text)
        found = Bench.read(text)
        self.assertTrue(found == k)
        self.assertEqual((found.deals(), found.promises(), found.labels()), ((), k.promises(), k.labels()))
        self.assertIsNone(caught(NothingToUndo, found.undo))
        self.assertIsNone(caught(NothingToRedo, found.redo))
        self.assertIsInstance(found, Bench)

    def test_labels_that_are_words_of_the_text(self):
        labels = ("alike", "bench", "in", "never", "out", "program", "refines", "straight", "trips", "if", "end", "fact")
        k = made(**{label: ONE for label in labels})
        promises = [("refines", "refines", "alike"), ("alike", "never", "trips"), ("never trips", "trips"),
                    ("never trips", "never"), ("straight", "straight"), ("straight", "program"), ("refines", "out", "bench")]
        k.deal(tuple(("promise", promise) for promise in promises))
        found = Bench.read(str(k))
        self.assertTrue(found == k)
        self.assertEqual(found.promises(), tuple(promises))
        self.assertIn("program program", str(k).split("\n"))

    def test_lines_that_cannot_stand(self):
        one = ["program p", "in a both 1", "out a"]
        two = ["program q", "in a both 1", "out a"]
        good = ["bench", *one, *two, "alike p q", "straight p", "never trips q"]
        self.assertEqual(str(Bench.read("\n".join(good))), "\n".join(good))
        for lines, at in (
                ([], 1), ([""], 1), (["Bench"], 1), (["bench "], 1), (["bench", ""], 2), (["bench", "bench"], 2),
                (one, 1), (["bench", "program"], 2), (["bench", "program P"], 2), (["bench", "program abcdefghi"], 2),
                (["bench", "program p "], 2), (["bench", "program  p"], 2), (["bench", "program p q"], 2),
                (["bench", "program p"], 3), (["bench", *one[:2]], 4), (["bench", "program p", "out a"], 3),
                (["bench", *one[:2], "c both 1 = a + x", "out a"], 4), (["bench", *one[:2], "out b"], 4),
                (["bench", *one, *one], 5), (["bench", *two, *one], 5), (["bench", *one, "in a both 1"], 5),
                (["bench", *one, *two[:2], "program r"], 7), (["bench", *one, "straight p", *two], 6),
                (["bench", *one, "straight"], 5), (["bench", *one, "straight q"], 5), (["bench", *one, "straight p p"], 5),
                (["bench", *one, "never p"], 5), (["bench", *one, "never trips"], 5), (["bench", *one, "never trips p p"], 5),
                (["bench", *one, "refines p"], 5), (["bench", *one, "refines p q"], 5), (["bench", *one, "alike p p p"], 5),
                (["bench", *one, "alike  p p"], 5), (["bench", *one, "straight p", "straight p"], 6),
                (["bench", *one, "straight p", ""], 6), (["bench", *one, "nevertrips p"], 5), (["bench", *one, ""], 5),
                (["bench", "straight p"], 2), (["bench", *one, "alike p p", "refines p p", "alike p p", "x"], 7)):
            self.assertEqual(caught(BadText, Bench.read, "\n".join(lines)), at, lines)

    def test_statements_are_counted_for_each_program(self):
        body = ["x" + chr(97 + k) + " both 1 = a + a" for k in range(24)]
        lines = ["bench", "program p", "in a both 1", *body, "out a", "program q", "in a both 1", *body, "out a"]
        self.assertEqual(str(Bench.read("\n".join(lines))), "\n".join(lines))
        self.assertEqual(caught(BadText, Bench.read, "\n".join([*lines[:-1], "y both 1 = a + a", "out a"])), 55)

    def test_promises_that_are_not_kept(self):
        lines = ["bench", "program p", *program_text(TRIPS).split("\n"), "program q", *program_text(FORK).split("\n"),
                 "straight p", "alike p p"]
        at = len(lines)
        self.assertEqual(str(Bench.read("\n".join(lines))), "\n".join(lines))
        for more, line in ((["never trips p"], 1), (["straight q"], 1), (["never trips q", "straight q"], 2),
                           (["alike p q", "straight q"], 1), (["refines q p"], 1), (["never trips q", "refines q q"], 0),
                           (["never trips p", "straight q"], 1)):
            if line:
                self.assertEqual(caught(BadText, Bench.read, "\n".join(lines + more)), at + line)
            else:
                self.assertEqual(Bench.read("\n".join(lines + more)).promises()[-1], ("refines", "q", "q"))
        # A line that cannot stand comes ahead of a promise that is not kept.
        self.assertEqual(caught(BadText, Bench.read, "\n".join([*lines, "never trips p", "x"])), at + 2)

    def test_no_texts(self):
        for thing in ANY_VALUES:
            if type(thing) is str:
                self.assertEqual(caught(BadText, Bench.read, thing), 1)
            else:
                self.assertEqual(caught(BadText, Bench.read, thing), 0)

    def test_changed_texts(self):
        text = str(example())
        rand = random.Random(123)
        read = 0
        for _ in range(1500):
            at = rand.randrange(len(text))
            other = text[:at] + rand.choice(("", "\n", " ", "a", "p", "x", "2", "out", text[at:at + 9])) + text[at + rand.randint(0, 2):]
            try:
                found = Bench.read(other)
            except BadText as e:
                self.assertTrue(1 <= e.at <= other.count("\n") + 2)
                continue
            read += 1
            self.assertEqual(str(found), other)
        self.assertGreater(read, 20)


class Conventions(Asked):
    def test_labels_and_programs(self):
        k = made(q=ONE, p=P)
        self.assertEqual(k.labels(), ("p", "q"))
        for thing in (*ANY_VALUES, "x", ["p"], ("p",)):
            self.assertIs(self.refused(k, NoName, k.program, thing), thing)

    def test_the_same_again(self):
        k = example()
        for _ in range(3):
            self.assertEqual(k.judged(("alike", "p", "old")), ("kept",))
            self.assertEqual(told(k), told(copy.deepcopy(k)))
        k.edit(("pass", "p", ("share", 1)))
        first = k.judged(("alike", "p", "old"))
        k.copy().undo()
        self.assertEqual(k.judged(("alike", "p", "old")), first)

    def test_names_of_parameters(self):
        k = Bench()
        k.edit(change=("put", "p", P))
        k.deal(edits=(("promise", ("straight", "p")),))
        self.assertEqual(k.program(label="p"), P)
        self.assertEqual(k.judged(promise=("straight", "p")), ("kept",))
        self.assertTrue(Bench.read(text=str(k)) == k)
        self.assertIs(fault_holds(bench=k, promise=("straight", "p"), thing=("if", 0)), False)

    def test_all_is_defined_there(self):
        self.assertEqual((Bench.__module__, fault_holds.__module__), ("tripmeans.bench",) * 2)
        for name in ("__eq__", "__str__", "copy", "read", "labels", "program", "promises", "deals", "deal", "edit", "undo",
                     "redo", "judged"):
            self.assertIn(name, vars(Bench))
        self.assertEqual(Bench.__bases__, (object,))
        self.assertEqual(module.__name__, "tripmeans.bench")


if __name__ == "__main__":
    unittest.main()
