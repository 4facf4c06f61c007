"""[2.6]: texts of programs, read back, and the number of the first line that cannot stand."""

import random
import unittest

from support import ANY_VALUES, Maker
from tripmeans import texts as module
from tripmeans.errors import BadProgram, BadText
from tripmeans.programs import is_program
from tripmeans.texts import program_text, read_program

K, K2, U = ("both", 1), ("both", 2), ("up", 1)
INS = (("a", K), ("b", K), ("c", U))
P = (INS, (), (("plus", "s", K, "a", "b"), ("minus", "r", K, "s", "c")), ("r",))
TEXT = "in a both 1\nin b both 1\nin c up 1\ns both 1 = a + b\nr both 1 = s - c\nout r"
ALL = (
    (("a", K), ("b", ("up", 30))), (("a", "b"), ("b", "a")),
    (("times", "c", ("both", 12), -12, "b"), ("if", "a", "c", (("least", "d", U, "a", "b"),),
                                             (("if", "b", "a", (), ()), ("greatest", "d", U, "b", "a"))),
     ("plus", "e", K2, "d", "d"), ("minus", "f", K, "e", "a"), ("times", "g", K, 0, "f")),
    ("g", "g", "a"),
)
ALL_TEXT = """in a both 1
in b up 30
fact a b
fact b a
c both 12 = -12 * b
if a <= c
d up 1 = least a b
else
if b <= a
else
end
d up 1 = greatest b a
end
e both 2 = d + d
f both 1 = e - a
g both 1 = 0 * f
out g g a"""


def line_of(*lines):
    """The number of the first line that cannot stand; None if the lines are a text."""
    try:
        program = read_program("\n".join(lines))
    except BadText as e:
        return e.at
    assert is_program(program) and program_text(program) == "\n".join(lines)
    return None


HEAD = ("in a both 1", "in b both 2", "in c up 30")
IF, OUT, SUM = "if a <= b", "out a", "m both 2 = a + b"


class Written(unittest.TestCase):
    def test_by_hand(self):
        self.assertEqual(program_text(P), TEXT)
        self.assertEqual(program_text(ALL), ALL_TEXT)
        self.assertEqual(program_text(((("a", K),), (), (), ("a",))), "in a both 1\nout a")

    def test_wrong_ones(self):
        for x in (*ANY_VALUES, list(P), P[:3], (*P[:3], ("x",))):
            with self.assertRaises(BadProgram) as found:
                program_text(x)
            self.assertIs(found.exception.thing, x)


class Read(unittest.TestCase):
    def test_by_hand(self):
        self.assertEqual(read_program(TEXT), P)
        self.assertEqual(read_program(ALL_TEXT), ALL)
        self.assertEqual(read_program("in a both 1\nout a"), ((("a", K),), (), (), ("a",)))

    def test_read_back(self):
        for seed in range(300):
            program = Maker(seed).program()
            again = read_program(program_text(program))
            self.assertEqual(again, program)
            self.assertEqual(repr(again), repr(program))

    def test_names_that_are_words(self):
        lines = ("in least up 1", "in both up 1", "up up 1 = least + both", "plus up 1 = least least up",
                 "minus up 2 = 3 * plus", "out up")
        program = read_program("\n".join(lines))
        self.assertEqual(program[2], (("plus", "up", U, "least", "both"), ("least", "plus", U, "least", "up"),
                                      ("times", "minus", ("up", 2), 3, "plus")))
        self.assertIsNone(line_of(*lines))

    def test_what_is_no_string(self):
        for x in ANY_VALUES:
            with self.assertRaises(BadText) as found:
                read_program(x)
            self.assertEqual(found.exception.at, 1 if isinstance(x, str) else 0)


class LinesThatCannotStand(unittest.TestCase):
    def test_any_line_in_any_place(self):
        lines = ALL_TEXT.split("\n")
        for wrong in ("", " ", "nothing", "in", "fact", "end of it", "else if", "x", "#", "out", "if", "x both 1 =",
                      "=", "x both 1 = a", "x both 1 = a / b", "x both 1 = a + nowhere", "fact b a c", "if a < b",
                      "if a <= nowhere", "out nowhere", "x both 1 = a + b ", " x both 1 = a + b"):
            for k in range(len(lines) + 1):
                self.assertEqual(line_of(*lines[:k], wrong, *lines[k:]), k + 1, (k, wrong))
                self.assertEqual(line_of(*lines[:k], wrong, *lines[k + 1:]), k + 1, (k, wrong))
                self.assertEqual(line_of(*lines[:k], wrong), k + 1, (k, wrong))

    def test_the_text_ends_ahead_of_the_outs(self):
        lines = ALL_TEXT.split("\n")
        for k in range(1, len(lines)):
            self.assertEqual(line_of(*lines[:k]), k + 1)
            self.assertEqual(line_of(*lines[:k], ""), k + 1)
        self.assertEqual(line_of(""), 1)
        self.assertEqual(line_of("", ""), 1)

    def test_lines_behind_the_outs(self):
        lines = ALL_TEXT.split("\n")
        for more in ("", "out a", "x both 1 = a + b", "end", "bench"):
            self.assertEqual(line_of(*lines, more), len(lines) + 1)

    def test_words_and_blanks(self):
        lines = ALL_TEXT.split("\n")
        for k, line in enumerate(lines):
            for wrong in (" " + line, line + " ", line + " a both", line.upper(), line + "\t", line + "\r",
                          line.replace(" ", "  "), line.replace(" ", "\t"), line + "x both", line + " # a"):
                if wrong != line:
                    self.assertEqual(line_of(*lines[:k], wrong, *lines[k + 1:]), k + 1, wrong)

    def test_lines_of_inputs(self):
        for line in ("in a both", "in a both 1 1", "in a both 0", "in a both 31", "in a up 31", "in a both 01",
                     "in a both +1", "in a both -1", "in a both 1.0", "in a Both 1", "in a down 1", "in A both 1",
                     "in abcdefghi both 1", "in in both 1", "in out both 1", "in if up 1", "in a1 up 1", "in  up 1",
                     "in both 1", "in a 1 both", "in a both both", "in a both 1_0", "in a both ' 1'", "fact a b",
                     "a both 1 = a + a", "out a", "if a <= a", "else", "end", "in a up \u0661"):
            self.assertEqual(line_of(line, "out a"), 1, line)
        self.assertIsNone(line_of("in a both 30", "out a"))
        self.assertIsNone(line_of("in abcdefgh up 1", "out abcdefgh"))
        self.assertEqual(line_of("in a both 1", "in b both 1", "in a up 1", "out a"), 3)
        ins = [f"in {name} both 1" for name in "abcdefg"]
        self.assertIsNone(line_of(*ins[:6], OUT))
        self.assertEqual(line_of(*ins, OUT), 7)
        self.assertEqual(line_of(*HEAD, "fact a b", "in d both 1", OUT), 5)
        self.assertEqual(line_of(*HEAD, SUM, "in d both 1", OUT), 5)

    def test_lines_of_facts(self):
        self.assertIsNone(line_of(*HEAD, "fact a b", "fact a c", "fact b a", "fact b c", "fact c a", "fact c b", OUT))
        for line in ("fact a a", "fact a d", "fact d a", "fact a", "fact a b c", "fact", "fact  a b", "fact a <= b"):
            self.assertEqual(line_of(*HEAD, line, OUT), 4, line)
        self.assertEqual(line_of(*HEAD, "fact b a", "fact a b", OUT), 5)
        self.assertEqual(line_of(*HEAD, "fact a b", "fact a b", OUT), 5)
        self.assertEqual(line_of(*HEAD, "fact b a", "fact a b", "fact a b", OUT), 5)
        self.assertEqual(line_of(*HEAD, "fact a b", "fact b a", "fact a c", OUT), 6)
        self.assertEqual(line_of(*HEAD, SUM, "fact a b", OUT), 5)
        self.assertEqual(line_of(*HEAD, IF, "fact a b", "else", "end", OUT), 5)
        ins = [f"in {name} both 1" for name in "abcd"]
        facts = [f"fact {one} {other}" for one in "abcd" for other in "abcd" if one != other]
        self.assertIsNone(line_of(*ins, *facts[:6], OUT))
        self.assertEqual(line_of(*ins, *facts[:7], OUT), 11)

    def test_lines_of_statements(self):
        for line in ("m both 2 = a + b", "m up 30 = a - a", "m both 1 = -12 * a", "m both 1 = 12 * a",
                     "m up 1 = 0 * c", "m both 1 = least a b", "m both 1 = greatest b c", "least up 1 = a + b",
                     "both both 1 = a + b"):
            self.assertIsNone(line_of(*HEAD, line, OUT), line)
        for line in ("m both 2 = a * b", "m both 2 = 13 * a", "m both 2 = -13 * a", "m both 2 = a * 2",
                     "m both 2 = 2 * 2", "m both 2 = +2 * a", "m both 2 = 02 * a", "m both 2 = -0 * a",
                     "m both 2 = 2 + a", "m both 2 = a + 2",
                     "m both 2 = 2 * d", "m both 2 = a + d", "m both 2 = d - a", "m both 2 = m + a", "a both 2 = a + b",
                     "m both 2 = a b least", "m both 2 = least a", "m both 2 = least a b c", "m both 2 = plus a b",
                     "m both 2 = most a b", "m both 0 = a + b", "m both 31 = a + b", "m 2 both = a + b",
                     "M both 2 = a + b",
                     "out both 2 = a + b", "end both 2 = a + b", "fact both 2 = a + b", "in both 2 = a + b",
                     "m = a + b",
                     "m both 2 == a + b", "m both 2 a + b", "m both 2 = a", "m both 2 = a +", "m both 2 = + a b",
                     "m both 2 = a + b + c", "m both 2 = times 2 a", "m both 2 = least a d", "m both 2 = greatest d a",
                     "m both 2 = 2*a", "if both 2 = a + b", "else both 2 = a + b", "m both 2 = least 2 a",
                     "m both 2 = 1_0 * a", "m both 2 = * * a", "m both 2 = a <= b", "m both 2 = -- * a"):
            self.assertEqual(line_of(*HEAD, line, OUT), 4, line)
        self.assertEqual(line_of(*HEAD, SUM, SUM, OUT), 5)
        self.assertEqual(line_of(*HEAD, "n both 2 = a + m", SUM, OUT), 4)

    def test_lines_of_ifs(self):
        self.assertIsNone(line_of(*HEAD, IF, "else", "end", OUT))
        self.assertIsNone(line_of(*HEAD, "if a <= a", "else", "end", OUT))
        for line in ("if a b", "if a < b", "if a <= d", "if d <= a", "if a <= b c", "if a >= b", "if a <= 2", "if",
                     "if a<=b", "if a =< b", "else", "end", "if a <=", "then"):
            self.assertEqual(line_of(*HEAD, line, "else", "end", OUT), 4, line)
        self.assertEqual(line_of(*HEAD, IF, "end", OUT), 5)
        self.assertEqual(line_of(*HEAD, IF, OUT), 5)
        self.assertEqual(line_of(*HEAD, IF, "else", "else", "end", OUT), 6)
        self.assertEqual(line_of(*HEAD, IF, "else", OUT), 6)
        self.assertEqual(line_of(*HEAD, IF, "else", "end", "end", OUT), 7)
        self.assertEqual(line_of(*HEAD, IF, "else", "end", "else", OUT), 7)
        self.assertEqual(line_of(*HEAD, IF, IF, "else", "end", OUT), 8)
        self.assertEqual(line_of(*HEAD, IF, "else a", "end", OUT), 5)
        self.assertEqual(line_of(*HEAD, IF, "else", "end a", OUT), 6)

    def test_what_is_known(self):
        use = "u both 2 = m + a"
        self.assertIsNone(line_of(*HEAD, IF, SUM, "else", "m both 2 = 3 * a", "end", use, "out m u"))
        self.assertIsNone(line_of(*HEAD, IF, SUM, use, "else", "end", OUT))
        self.assertIsNone(line_of(*HEAD, IF, SUM, "else", "end", "m up 1 = a + b", "out m"))
        self.assertEqual(line_of(*HEAD, IF, SUM, "else", use, "end", OUT), 7)
        self.assertEqual(line_of(*HEAD, IF, SUM, "else", "end", use, OUT), 8)
        self.assertEqual(line_of(*HEAD, IF, "else", SUM, "end", use, OUT), 8)
        self.assertEqual(line_of(*HEAD, IF, SUM, "else", "end", "out m"), 8)
        self.assertEqual(line_of(*HEAD, IF, SUM, "else", "m both 3 = a + b", "end", "out m"), 7)
        self.assertEqual(line_of(*HEAD, IF, SUM, "else", "m up 2 = a + b", "end", "out a"), 7)
        self.assertEqual(line_of(*HEAD, IF, SUM, "else", SUM, "end", SUM, OUT), 9)
        # A name that an arm within gives by both of its arms is known in the arm around it, and not behind that.
        inner = (IF, SUM, "else", SUM, "end")
        self.assertIsNone(line_of(*HEAD, IF, *inner, use, "else", "m up 1 = a + b", "end", OUT))
        self.assertEqual(line_of(*HEAD, IF, *inner, "else", SUM, "end", use, OUT), 13)

    def test_the_most_statements(self):
        lines = [f"n{chr(97 + k)} both 1 = a + b" for k in range(26)]
        self.assertIsNone(line_of(*HEAD, *lines[:24], OUT))
        self.assertEqual(line_of(*HEAD, *lines[:25], OUT), 28)
        self.assertEqual(line_of(*HEAD, *lines[:24], IF, "else", "end", OUT), 28)
        self.assertIsNone(line_of(*HEAD, IF, *lines[:12], "else", *lines[12:23], "end", OUT))
        self.assertEqual(line_of(*HEAD, IF, *lines[:12], "else", *lines[12:24], "end", OUT), 29)
        self.assertIsNone(line_of(*HEAD, *(IF,) * 24, *("else", "end") * 24, OUT))
        self.assertEqual(line_of(*HEAD, *(IF,) * 25, *("else", "end") * 25, OUT), 28)

    def test_lines_of_outs(self):
        self.assertIsNone(line_of(*HEAD, "out a b c a"))
        for line in ("out", "out a b c a b", "out d", "out a d", "out  a", "out a ", "out in", "out 1", "outs a",
                     "out a, b"):
            self.assertEqual(line_of(*HEAD, line), 4, line)


class ManyTexts(unittest.TestCase):
    def test_one_line_wrong(self):
        rand = random.Random(31)
        for seed in range(200):
            lines = program_text(Maker(seed).program()).split("\n")
            k = rand.randrange(len(lines))
            self.assertEqual(line_of(*lines[:k], rand.choice(("", "in", "q both 1 = nowhere + a", "out nowhere")),
                                     *lines[k + 1:]), k + 1)

    def test_a_line_that_is_read_is_a_line_that_is_written(self):
        rand = random.Random(32)
        for seed in range(300):
            lines = program_text(Maker(seed).program()).split("\n")
            one, other = rand.randrange(len(lines)), rand.randrange(len(lines))
            lines[one], lines[other] = lines[other], lines[one]
            at = line_of(*lines)
            # Nothing ahead of the first line that was exchanged has become wrong.
            self.assertTrue(at is None or min(one, other) < at <= len(lines) + 1)


class Interface(unittest.TestCase):
    def test_functions_are_defined_there(self):
        self.assertEqual(module.program_text.__module__, "tripmeans.texts")
        self.assertEqual(module.read_program.__module__, "tripmeans.texts")


if __name__ == "__main__":
    unittest.main()
