"""[2.1] to [2.4]: kinds, names, programs, statements and their numbers, what is known."""

import random
import unittest

from support import ANY_VALUES, Maker, caught
from tripmeans import programs as module
from tripmeans import texts
from tripmeans.errors import BadBody, BadFacts, BadIns, BadKind, BadNumber, BadOuts, BadProgram, BadStatement
from tripmeans.programs import (is_kind, is_kind_within, is_name, is_program, is_straight, known_at, known_behind,
                                made_program, statement_at, statement_count)

K, K2, U = ("both", 1), ("both", 2), ("up", 1)
INS = (("a", K), ("b", K), ("c", U))
P = (INS, (), (("plus", "s", K, "a", "b"), ("minus", "r", K, "s", "c")), ("r",))
PLUS = ("plus", "m", K2, "a", "b")
TIMES = ("times", "m", K2, 2, "a")
WORDS = ("plus", "minus", "least", "greatest")


def numbered(many):
    """Statements that give so many names, one behind the other."""
    return tuple(("plus", "n" + chr(97 + k), K, "a", "b") for k in range(many))


class Kinds(unittest.TestCase):
    def test_kinds(self):
        for word in ("both", "up"):
            for k in range(-1, 33):
                self.assertIs(is_kind((word, k)), 1 <= k <= 30)
            self.assertIs(is_kind((word, True)), False)
            self.assertIs(is_kind((word, "1")), False)
            self.assertIs(is_kind([word, 1]), False)
            self.assertIs(is_kind((word,)), False)
            self.assertIs(is_kind((word, 1, 1)), False)
            self.assertIs(is_kind((word + "s", 1)), False)
            self.assertIs(is_kind((word.title(), 1)), False)

    def test_any_value(self):
        self.assertEqual([x for x in ANY_VALUES if is_kind(x)], [("both", 1)])
        for x in ANY_VALUES:
            self.assertIs(is_kind((x, 1)), False)
            self.assertIs(is_kind(("both", x)), type(x) is int and 1 <= x <= 30)

    def test_within_at_every_bound(self):
        kinds = [(word, k) for word in ("both", "up") for k in (1, 2, 3, 29, 30)]
        for one in kinds:
            for other in kinds:
                within = all(low(other) * b <= low(one) * b and one[1] * b <= other[1] * b for b in (1, 2, 7))
                self.assertIs(is_kind_within(one, other), within, (one, other))
        self.assertIs(is_kind_within(("up", 2), ("both", 3)), True)
        self.assertIs(is_kind_within(("both", 3), ("up", 2)), False)

    def test_within_wrong_ones(self):
        for x in ANY_VALUES:
            if x != ("both", 1):
                self.assertIs(caught(BadKind, is_kind_within, x, K), x)
                self.assertIs(caught(BadKind, is_kind_within, K, x), x)
                self.assertIs(caught(BadKind, is_kind_within, x, None), x)
        self.assertEqual(caught(BadKind, is_kind_within, ("up", 31), ("up", 0)), ("up", 31))


def low(kind):
    return -kind[1] if kind[0] == "both" else 0


class Names(unittest.TestCase):
    def test_names(self):
        for name in ("a", "z", "abcdefgh", "least", "greatest", "both", "up", "plus", "outs", "ifs", "i", "facts"):
            self.assertIs(is_name(name), True, name)
        for name in ("", "abcdefghi", "in", "fact", "if", "else", "end", "out", "A", "aB", "a1", "a b", " a", "a ",
                     "a\n", "-", "a_b", "\u00e9", "\u00df", "\u0430", b"a", 7, None, ("a",), ["a"]):
            self.assertIs(is_name(name), False, name)

    def test_any_value(self):
        self.assertEqual([x for x in ANY_VALUES if is_name(x)], ["a", "point", "weights"])


class Ins(unittest.TestCase):
    def test_numbers_of_inputs(self):
        for many in range(9):
            ins = tuple(("abcdefghi"[k], K) for k in range(many))
            if 1 <= many <= 6:
                self.assertEqual(made_program(ins, (), (), ("a",)), (ins, (), (), ("a",)))
            else:
                self.assertIs(caught(BadIns, made_program, ins, (), (), ("a",)), ins)
                self.assertIs(is_program((ins, (), (), ("a",))), False)

    def test_wrong_ones(self):
        for x in ANY_VALUES:
            self.assertIs(caught(BadIns, made_program, x, (), (), ("a",)), x)
            if x != ("a", ("both", 1)):
                self.assertEqual(caught(BadIns, made_program, (x,), (), (), ("a",)), (x,))
            if x not in ("a", "point", "weights"):
                self.assertEqual(caught(BadIns, made_program, ((x, K),), (), (), ("a",)), ((x, K),))
            if x != ("both", 1):
                self.assertEqual(caught(BadIns, made_program, (("a", x),), (), (), ("a",)), (("a", x),))
        for ins in ((("a", K), ("a", K)), (("a", K), ("b", K), ("a", U)), (("a", K, 1),), (("a",),), [("a", K)],
                    (["a", K],), (("a", ["both", 1]),), (("in", K),), (("a", ("up", 31)),)):
            self.assertIs(caught(BadIns, made_program, ins, (), (), ("a",)), ins)


class Facts(unittest.TestCase):
    def test_right_ones(self):
        for facts in ((), (("a", "b"),), (("a", "b"), ("b", "a")), (("a", "b"), ("a", "c"), ("b", "a")),
                      (("a", "b"), ("a", "c"), ("b", "a"), ("b", "c"), ("c", "a"), ("c", "b"))):
            self.assertEqual(made_program(INS, facts, (), ("a",)), (INS, facts, (), ("a",)))

    def test_wrong_ones(self):
        for facts in ((("a", "a"),), (("b", "a"), ("a", "b")), (("a", "b"), ("a", "b")), (("a", "d"),),
                      (("d", "a"),), (("a", "b", "c"),), (("a",),), [("a", "b")], (["a", "b"],), ("ab",),
                      (("a", "c"), ("a", "b")), (("a", None),), ((["a"], "b"),), (("a", {}),), (((), "b"),)):
            self.assertIs(caught(BadFacts, made_program, INS, facts, (), ("a",)), facts)
            self.assertIs(is_program((INS, facts, (), ("a",))), False)
        for x in ANY_VALUES:
            if x != ():
                self.assertIs(caught(BadFacts, made_program, INS, x, (), ("a",)), x)
            self.assertEqual(caught(BadFacts, made_program, INS, (x,), (), ("a",)), (x,))

    def test_numbers_of_facts(self):
        ins = tuple((name, K) for name in "abcd")
        pairs = [(one, other) for one in "abcd" for other in "abcd" if one != other]
        self.assertIs(is_program((ins, tuple(pairs[:6]), (), ("a",))), True)
        self.assertEqual(caught(BadFacts, made_program, ins, tuple(pairs[:7]), (), ("a",)), tuple(pairs[:7]))

    def test_names_that_are_given_later_are_no_inputs(self):
        self.assertEqual(caught(BadFacts, made_program, INS, (("a", "m"),), (PLUS,), ("m",)), (("a", "m"),))


class Bodies(unittest.TestCase):
    def number(self, *body):
        """The number of the first wrong item of a body; None if there is none."""
        try:
            made_program(INS, (), body, ("a",))
        except BadStatement as e:
            self.assertIs(is_program((INS, (), body, ("a",))), False)
            return e.number
        self.assertIs(is_program((INS, (), body, ("a",))), True)
        return None

    def test_statements(self):
        for word in WORDS:
            self.assertIsNone(self.number((word, "d", K, "a", "b")))
            self.assertIsNone(self.number((word, "d", U, "a", "a")))
            for wrong in ((word, "a", K, "a", "b"), (word, "d", K, "a", "x"), (word, "d", K, "x", "a"),
                          (word, "d", K, "d", "a"), (word, "d", K, 1, "a"), (word, "d", K, "a", 1),
                          (word, "in", K, "a", "b"), (word, "d", ("up", 31), "a", "b"), (word, "d", K, "a"),
                          (word, "d", K, "a", "b", "c"), [word, "d", K, "a", "b"], (word, "d", K, "a", ["b"]),
                          (word.upper(), "d", K, "a", "b"), (word, ["d"], K, "a", "b"), (word, "d", K, {}, "b")):
                self.assertEqual(self.number(wrong), 0, wrong)

    def test_factors(self):
        for factor in range(-15, 16):
            wrong = None if -12 <= factor <= 12 else 0
            self.assertEqual(self.number(("times", "d", K, factor, "a")), wrong)
        for item in (("times", "d", K, True, "a"), ("times", "d", K, "2", "a"), ("times", "d", K, 2, "x"),
                     ("times", "d", K, "a", 2), ("times", "d", K, "a", "b"), ("times", "d", K, 2, "d"),
                     ("times", "a", K, 2, "b"), ("times", "d", K, None, "a"), ("times", "d", K, 2, 2)):
            self.assertEqual(self.number(item), 0, item)

    def test_any_value_is_no_statement(self):
        for x in ANY_VALUES:
            if x == ("if", "a", "b", (), ()):
                continue
            self.assertEqual(self.number(x), 0)
            self.assertEqual(self.number(PLUS, x), 1)
            self.assertEqual(self.number(("if", "a", "b", (PLUS,), (TIMES, x)), x), 3)
            for k in range(5):
                item = list(PLUS)
                item[k] = x
                if (k, x) not in ((1, "point"), (1, "weights"), (2, K), (3, "a"), (4, "a")):
                    self.assertEqual(self.number(tuple(item)), 0, item)
            if not isinstance(x, tuple):
                self.assertEqual(self.number(("if", "a", "b", x, ())), 0)
                self.assertEqual(self.number(("if", "a", "b", (), x)), 0)
            if x != "a":
                self.assertEqual(self.number(("if", "a", x, (), ())), 0)
                self.assertEqual(self.number(("if", x, "a", (), ())), 0)

    def test_what_a_statement_asks_for(self):
        self.assertIsNone(self.number(PLUS, ("minus", "n", K, "m", "a")))
        self.assertEqual(self.number(("minus", "n", K, "m", "a"), PLUS), 0)
        self.assertEqual(self.number(PLUS, PLUS), 1)
        self.assertEqual(self.number(PLUS, ("minus", "n", K, "m", "a"), ("times", "c", K, 1, "n")), 2)

    def test_the_documents_example(self):
        self.assertEqual(caught(BadStatement, made_program, INS, (("b", "a"),), P[2][1:], P[3]), 0)
        body = (("if", "a", "b", (PLUS,), (TIMES,)),)
        self.assertEqual(made_program(INS, (), body, ("m",)), (INS, (), body, ("m",)))
        body = (("if", "a", "b", (PLUS,), (("times", "m", ("both", 3), 2, "a"),)),)
        self.assertEqual(caught(BadStatement, made_program, INS, (), body, ("m",)), 2)

    def test_an_if_is_looked_at_ahead_of_its_arms(self):
        wrong = ("plus", "m", K, "x", "y")
        self.assertEqual(self.number(("if", "a", "x", (wrong,), (wrong,))), 0)
        self.assertEqual(self.number(("if", "x", "a", (wrong,), ())), 0)
        self.assertEqual(self.number(("if", "a", "b", (wrong,), ())), 1)
        self.assertEqual(self.number(("if", "a", "b", (), (wrong,))), 1)
        self.assertEqual(self.number(("if", "a", "b", (PLUS,), (wrong,))), 2)
        self.assertEqual(self.number(("if", "a", "b", (PLUS,), (TIMES,)), wrong), 3)
        self.assertEqual(self.number(("if", "a", "b", [wrong], (wrong,))), 0)
        self.assertEqual(self.number(("if", "a", "b", (wrong,), None)), 0)
        self.assertEqual(self.number(("if", "a", "b", ())), 0)
        self.assertEqual(self.number(("if", "a", "b", (), (), ())), 0)
        self.assertEqual(self.number(("if", "a", "b", (), (("if", "a", "m", (wrong,), ()),)), wrong), 1)

    def test_what_is_as_an_if_with_another_word(self):
        for word in ("plus", "times", "fi", "", None, ("if",)):
            self.assertEqual(self.number((word, "a", "b", (), ())), 0)
            # It is one item: what stands in it is no statement of the body.
            self.assertEqual(self.number((word, "a", "b", numbered(20), numbered(20))), 0)

    def test_an_if_whose_names_are_one(self):
        self.assertIsNone(self.number(("if", "a", "a", (), ())))

    def test_what_is_known_in_arms(self):
        use = ("times", "u", K, 1, "m")
        # What the first arm gives is not known in the second one, nor in the names of the "if" itself.
        self.assertIsNone(self.number(("if", "a", "b", (PLUS, use), ())))
        self.assertEqual(self.number(("if", "a", "b", (PLUS,), (use,))), 2)
        self.assertEqual(self.number(("if", "a", "m", (PLUS,), ())), 0)
        self.assertIsNone(self.number(PLUS, ("if", "a", "m", (use,), (use,))))
        self.assertEqual(self.number(PLUS, ("if", "a", "b", (), (PLUS,))), 2)

    def test_what_is_known_behind_an_if(self):
        use = ("times", "u", K, 1, "m")
        self.assertIsNone(self.number(("if", "a", "b", (PLUS,), (TIMES,)), use))
        self.assertEqual(self.number(("if", "a", "b", (PLUS,), (TIMES,)), PLUS), 3)
        self.assertEqual(self.number(("if", "a", "b", (PLUS,), ()), use), 2)
        self.assertEqual(self.number(("if", "a", "b", (), (PLUS,)), use), 2)
        # A name that one arm alone gives may be given anew, with another kind too.
        self.assertIsNone(self.number(("if", "a", "b", (PLUS,), ()), ("plus", "m", U, "a", "b"), use))
        self.assertIsNone(self.number(("if", "a", "b", (), (PLUS,)), ("plus", "m", U, "a", "b"), use))

    def test_kinds_of_joined_statements(self):
        other = ("times", "m", U, 2, "a")
        inner = ("if", "a", "b", (PLUS,), (TIMES,))
        self.assertEqual(self.number(("if", "a", "b", (PLUS,), (other,))), 2)
        self.assertEqual(self.number(("if", "a", "b", (other,), (PLUS,))), 2)
        # In arms within, the names are others, and ask for nothing.
        self.assertIsNone(self.number(("if", "a", "b", (PLUS,), (("if", "a", "b", (other,), (other,)),))))
        self.assertIsNone(self.number(("if", "a", "b", (inner,), (other,))))
        self.assertIsNone(self.number(("if", "a", "b", (PLUS,), (("if", "a", "b", (other,), ()), TIMES))))
        self.assertEqual(self.number(("if", "a", "b", (PLUS,), (("if", "a", "b", (other,), ()), other))), 4)
        self.assertEqual(self.number(("if", "a", "b", (inner,), (inner,)), ("times", "u", K, 1, "m")), 7)

    def test_numbers_of_statements(self):
        for many in (0, 1, 23, 24):
            program = made_program(INS, (), numbered(many), ("a",))
            self.assertEqual(statement_count(program), many)
        for body in (numbered(25), (("if", "a", "b", numbered(12), numbered(12)),), (None,) * 25, ("x",) * 3000,
                     (("if", "a", "b", (), numbered(20) + (None,)), None, 1, 2),
                     (("if", "x", "y", numbered(12), numbered(12)),)):
            self.assertIs(caught(BadBody, made_program, INS, (), body, ("a",)), body)
            self.assertIs(is_program((INS, (), body, ("a",))), False)
        self.assertIsNone(self.number(("if", "a", "b", numbered(12), numbered(11))))
        # An "if" with an arm that is no tuple is one item, whatever stands in its arms.
        self.assertEqual(self.number(*numbered(23), ("if", "a", "b", (None,) * 9, [])), 23)
        self.assertEqual(self.number(*numbered(23), ("if", "a", "b", [None] * 30, (None,) * 9)), 23)
        self.assertEqual(self.number(*((None,) * 24)), 0)

    def test_arms_in_arms_to_the_most(self):
        item = PLUS
        for many in range(2, 27):
            item = ("if", "a", "b", (item,), ()) if many % 2 else ("if", "a", "b", (), (item,))
            if many <= 24:
                self.assertIsNone(self.number(item))
                self.assertEqual(statement_at((INS, (), (item,), ("a",)), many - 1), PLUS)
            else:
                self.assertEqual(caught(BadBody, made_program, INS, (), (item,), ("a",)), (item,))

    def test_bodies_that_are_no_tuples(self):
        for x in ANY_VALUES:
            if not isinstance(x, tuple):
                self.assertIs(caught(BadBody, made_program, INS, (), x, ("a",)), x)
        self.assertEqual(caught(BadBody, made_program, INS, (), list(P[2]), ("a",)), list(P[2]))


class Outs(unittest.TestCase):
    def test_right_ones(self):
        for outs in (("a",), ("r",), ("r", "r"), ("a", "s", "r", "c")):
            self.assertEqual(made_program(INS, (), P[2], outs), (INS, (), P[2], outs))

    def test_wrong_ones(self):
        for x in ANY_VALUES:
            self.assertIs(caught(BadOuts, made_program, INS, (), P[2], x), x)
            if x != "a":
                self.assertEqual(caught(BadOuts, made_program, INS, (), P[2], ("a", x)), ("a", x))
        for outs in ((), ("a",) * 5, ("x",), ["a"], "a"):
            self.assertIs(caught(BadOuts, made_program, INS, (), P[2], outs), outs)
            self.assertIs(is_program((INS, (), P[2], outs)), False)

    def test_what_is_not_known_behind_the_body(self):
        body = (("if", "a", "b", (PLUS,), ()),)
        self.assertEqual(caught(BadOuts, made_program, INS, (), body, ("m",)), ("m",))
        body = (("if", "a", "b", (PLUS,), (TIMES,)),)
        self.assertIs(is_program((INS, (), body, ("m",))), True)


class WhichErrorComesFirst(unittest.TestCase):
    def test_of_made_program(self):
        wrong = (None, None, None, None)
        right = (INS, (), P[2], ("a",))
        for k, error in enumerate((BadIns, BadFacts, BadBody, BadOuts)):
            self.assertIsNone(caught(error, made_program, *right[:k], *wrong[k:]))
        self.assertEqual(caught(BadStatement, made_program, INS, (), (PLUS, None), None), 1)
        self.assertEqual(caught(BadBody, made_program, INS, (), (None,) * 25, None), (None,) * 25)

    def test_program_ahead_of_number(self):
        for x in ANY_VALUES:
            for call in (statement_at, known_at):
                self.assertIs(caught(BadProgram, call, x, x), x)
            for call in (is_straight, statement_count, known_behind, texts.program_text):
                self.assertIs(caught(BadProgram, call, x), x)

    def test_nearly_programs(self):
        for thing in (list(P), P[:3], P + ((),), (INS, (), [], ("a",)), (INS, None, (), ("a",)), ((), (), (), ("a",)),
                      (INS, (), P[2], ()), (P[1], P[0], P[2], P[3]), (INS, (), P[2][::-1], ("r",))):
            self.assertIs(is_program(thing), False)
            self.assertIs(caught(BadProgram, is_straight, thing), thing)
            self.assertIs(caught(BadProgram, known_at, thing, 0), thing)

    def test_numbers(self):
        for x in ANY_VALUES:
            if type(x) is not int or x not in (0, 1):
                self.assertIs(caught(BadNumber, statement_at, P, x), x)
                self.assertIs(caught(BadNumber, known_at, P, x), x)
        for number in (0, 1, -1, None):
            self.assertEqual(caught(BadNumber, statement_at, (INS, (), (), ("a",)), number), number)


class WhatIsKnown(unittest.TestCase):
    INNER = ("if", "d", "a", (("times", "e", U, 3, "d"),), (("times", "e", U, 4, "b"), ("plus", "f", U, "e", "a")))
    BODY = (
        ("plus", "d", K, "a", "b"),
        ("if", "a", "d", (INNER, ("least", "g", K2, "e", "c")), (("greatest", "h", K, "a", "b"),
                                                               ("minus", "g", K2, "h", "d"))),
        ("times", "i", ("both", 30), -12, "g"),
    )
    ASKED = (INS, (("a", "b"),), BODY, ("i", "g"))

    def test_is_a_program(self):
        self.assertIs(is_program(self.ASKED), True)
        self.assertIs(is_program(P), True)
        for x in ANY_VALUES:
            self.assertIs(is_program(x), False)

    def test_numbers_in_the_order_of_the_text(self):
        outer = self.BODY[1]
        order = [self.BODY[0], outer, self.INNER, self.INNER[3][0], *self.INNER[4], outer[3][1],
                 *outer[4], self.BODY[2]]
        self.assertEqual(statement_count(self.ASKED), 10)
        self.assertEqual([statement_at(self.ASKED, k) for k in range(10)], order)
        self.assertEqual(caught(BadNumber, statement_at, self.ASKED, 10), 10)

    def test_known_at(self):
        letters = ["abc", "abcd", "abcd", "abcd", "abcd", "abcde", "abcde", "abcd", "abcdh", "abcdg"]
        kinds = {"a": K, "b": K, "c": U, "d": K, "e": U, "f": U, "g": K2, "h": K, "i": ("both", 30)}
        for k, names in enumerate(letters):
            self.assertEqual(known_at(self.ASKED, k), tuple((name, kinds[name]) for name in names), k)
        self.assertEqual(known_behind(self.ASKED), tuple((name, kinds[name]) for name in "abcdgi"))
        self.assertEqual(known_behind((INS[::-1], (), (), ("a",))), INS)

    def test_the_documents_examples(self):
        self.assertEqual(known_at(P, 1), (("a", K), ("b", K), ("c", U), ("s", K)))

    def test_ascending(self):
        program = ((("z", K), ("b", U)), (), (("plus", "y", K, "z", "b"), ("plus", "aa", K2, "z", "b")), ("y",))
        self.assertEqual(known_at(program, 1), (("b", U), ("y", K), ("z", K)))
        self.assertEqual(known_behind(program), (("aa", K2), ("b", U), ("y", K), ("z", K)))

    def test_straight(self):
        self.assertIs(is_straight(P), True)
        self.assertIs(is_straight((INS, (), (), ("a",))), True)
        self.assertIs(is_straight((INS, (), (("greatest", "m", K, "a", "b"),), ("a",))), True)
        self.assertIs(is_straight(self.ASKED), False)
        self.assertIs(is_straight((INS, (), (PLUS, ("if", "a", "b", (), ())), ("a",))), False)


class ManyPrograms(unittest.TestCase):
    def test_made_at_will(self):
        for seed in range(300):
            program = Maker(seed).program()
            self.assertIs(is_program(program), True, program)
            self.assertEqual(made_program(*program), program)
            count = statement_count(program)
            self.assertEqual(count, texts.program_text(program).count(" = ") + texts.program_text(program).count("<="))
            for number in range(count):
                statement = statement_at(program, number)
                known = dict(known_at(program, number))
                names = statement[1:3] if statement[0] == "if" else [x for x in statement[3:] if type(x) is str]
                self.assertTrue(all(name in known for name in names))
                if statement[0] != "if":
                    self.assertNotIn(statement[1], known)
            behind = dict(known_behind(program))
            self.assertTrue(all(name in behind for name in program[3]))

    def test_with_a_wrong_item(self):
        rand = random.Random(21)
        for seed in range(300):
            program = Maker(seed).program()
            count = statement_count(program)
            if count:
                number = rand.randrange(count)
                body, _ = replaced(program[2], number, ("plus", "q", K, "nowhere", "a"))
                self.assertEqual(caught(BadStatement, made_program, *program[:2], body, program[3]), number)


def replaced(block, number, item):
    """The block with another item at a number, and how many numbers are behind it."""
    found = []
    for old in block:
        if number == 0:
            found.append(item)
            number = -1
        elif old[0] == "if":
            then, number = replaced(old[3], number - 1, item)
            other, number = replaced(old[4], number, item)
            found.append((*old[:3], then, other))
        else:
            found.append(old)
            number -= 1
    return tuple(found), number


class Interface(unittest.TestCase):
    def test_functions_are_defined_there(self):
        for name in ("is_kind", "is_name", "is_program", "is_kind_within", "made_program", "is_straight",
                     "statement_count", "statement_at", "known_at", "known_behind"):
            self.assertEqual(getattr(module, name).__module__, "tripmeans.programs")


if __name__ == "__main__":
    unittest.main()
