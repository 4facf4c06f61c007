"""Part 7: wanted sums, free forms, and papers that a wanted has a free program or none."""

import random
import unittest

from later_words import is_free_program, made_by, needs
from support import ANY_VALUES, caught, changed_once, is_follows_paper, most_digits, total
from tripmeans import free as module
from tripmeans.errors import BadNumber, BadWanted, NotRoomy
from tripmeans.free import free_forms, free_holds, judge_free, need_borders
from tripmeans.single import is_single
from tripmeans.walls import does_follow, is_roomy, judge_follows
from words import all_given, two, walked

K, U = ("both", 1), ("up", 1)
K2, U2 = ("both", 2), ("up", 2)
ABC = (("a", K), ("b", K), ("c", K))
ANY = (ABC, (), (((1, 1, 1), K),))
UPS = ((("a", U), ("b", U), ("c", U)), (), (((1, 1, -1), K),))


def fits(wanted, k, form):
    """Whether both walls of a form follow from the need walls, by papers that are checked."""
    for wall in two(form, ("both", k)):
        asked = (len(wall), needs(wanted), (), wall)
        paper = judge_follows(*asked)
        assert is_follows_paper(*asked, paper)
        if paper[0] == "point":
            return False
    return True


def is_right(wanted, k, thing):
    """Whether any value is a paper of [7.3], by its words."""
    if type(thing) is not tuple or len(thing) != 2 or type(thing[0]) is not str:
        return False
    n = len(wanted[0])
    if thing[0] == "program":
        if not is_free_program(wanted, k, thing[1]):
            return False
        return all(fits(wanted, k, form) for form in forms_ahead(wanted, thing[1]))
    if thing[0] != "closed" or type(thing[1]) is not tuple:
        return False
    forms = thing[1]
    for form in forms:
        if type(form) is not tuple or len(form) != n or any(type(x) is not int for x in form):
            return False
    inputs = [tuple(int(k == at) for at in range(n)) for k in range(n)]
    if list(forms) != sorted(set(forms)) or not set(inputs) <= set(forms):
        return False
    made = made_by(forms)
    if all(form in made for form, _ in wanted[2]):
        return False
    return not any(form not in forms and fits(wanted, k, form) for form in made)


def forms_ahead(wanted, program):
    """The forms of the statements ahead of those for the outs."""
    names = [name for name, _ in program[0]]
    forms = {name: tuple(int(k == at) for at in range(len(names))) for k, name in enumerate(names)}
    for word, name, _, one, other in program[2]:
        sign = 1 if word == "plus" else -1
        forms[name] = tuple(x + sign * y for x, y in zip(forms[one], forms[other]))
    return [forms[item[1]] for item in program[2][:len(program[2]) - len(wanted[2])]]


def wanted_at_will(rand, n=None):
    n = n or rand.choice((1, 2, 2, 3))
    ins = tuple((name, (rand.choice(("both", "up")), rand.choice((1, 1, 1, 2)))) for name in "qbzd"[:n])
    names = [name for name, _ in ins]
    pairs = [(a, b) for a in names for b in names if a != b]
    facts = tuple(sorted(rand.sample(pairs, min(len(pairs), rand.choice((0, 0, 0, 1, 2))))))
    far = rand.choice((1, 2, 3))
    outs = tuple((tuple(rand.randint(-far, far) for _ in range(n)),
                  (rand.choice(("both", "up")), rand.choice((1, 1, 2, 3)))) for _ in range(rand.choice((1, 1, 2, 3))))
    return ins, facts, outs


class Asked(unittest.TestCase):
    def judged(self, wanted, k):
        """The word of the paper, which is checked by the document's words."""
        paper = judge_free(wanted, k)
        self.assertTrue(is_right(wanted, k, paper), (wanted, k, paper))
        self.assertIs(free_holds(wanted, k, paper), True)
        self.assertLessEqual(most_digits(paper), 60)
        return paper[0]


class Examples(Asked):
    def test_the_examples(self):
        self.assertEqual([len(need_borders(ANY, 1)), free_forms(ANY, 1)], [8, (
            (-1, 0, 0), (0, -1, 0), (0, 0, -1), (0, 0, 0), (0, 0, 1), (0, 1, 0), (1, 0, 0))])
        self.assertEqual([self.judged(ANY, 1), self.judged(ANY, 2), self.judged(UPS, 1)],
                         ["closed", "program", "program"])
        for body, right in (((("minus", "d", K, "a", "c"), ("plus", "e", K, "d", "b")), True),
                            ((("plus", "d", K, "a", "b"), ("minus", "e", K, "d", "c")), False)):
            self.assertIs(free_holds(UPS, 1, ("program", (UPS[0], (), body, ("e",)))), right)

    def test_need_walls(self):
        wanted = (ABC[:2], (("b", "a"),), (((2, -1), U2), ((0, 0), K)))
        found = ((-1, 0, 1), (1, 0, 1), (0, -1, 1), (0, 1, 1), (1, -1, 0), (-2, 1, 2), (2, -1, 0), (0, 0, 1), (0, 0, 1))
        self.assertEqual(need_borders(wanted, 1), found)
        for k in range(1, 31):
            self.assertEqual(need_borders(wanted, k), found)
        rand = random.Random(61)
        for _ in range(40):
            wanted = wanted_at_will(rand)
            if is_roomy(len(wanted[0]) + 1, needs(wanted)):
                self.assertEqual(need_borders(wanted, rand.randint(1, 30)), needs(wanted))

    def test_sums_that_are_wanted_as_they_are(self):
        # An input, its opposite and nothing at all: sums with a difference of an input and itself.
        for form in ((1, 0, 0), (0, -1, 0), (0, 0, 0), (0, 0, 1)):
            for kind in (K, K2, ("both", 30)):
                self.assertEqual(self.judged((ABC, (), ((form, kind),)), 1), "program")
        self.assertEqual(self.judged((ABC, (), (((0, 0, 0), U), ((0, 1, 0), U))), 1), "program")

    def test_inputs_that_are_wider_than_registers(self):
        wanted = ((("a", ("both", 3)), ("b", K)), (), (((1, 1), ("both", 4)),))
        self.assertEqual(free_forms(wanted, 1), ((0, -1), (0, 0), (0, 1), (1, 0)))
        self.assertEqual(self.judged(wanted, 1), "program")
        self.assertEqual(self.judged((*wanted[:2], (((2, 1), ("both", 30)),)), 2), "closed")
        self.assertEqual(self.judged((*wanted[:2], (((2, 1), ("both", 2)),)), 2), "program")
        self.assertEqual(self.judged((*wanted[:2], (((2, 1), ("both", 2)),)), 1), "closed")

    def test_facts(self):
        ins = (("a", U), ("b", U), ("c", U), ("d", U))
        outs = (((1, -1, 1, -1), K),)
        self.assertEqual(self.judged((ins, (), (((1, -1, 1, -1), ("both", 2)),)), 1), "program")
        self.assertEqual(self.judged((ins, (("b", "a"), ("d", "c")), outs), 1), "program")
        grow = ((ins[0], ins[1]), (("a", "b"),), (((-1, 2), ("up", 2)),))
        self.assertEqual(self.judged(grow, 1), "program")
        self.assertEqual(self.judged((grow[0], (), (((-1, 2), ("both", 2)),)), 1), "program")
        self.assertEqual(self.judged((grow[0], (), (((2, 2), ("both", 4)),)), 1), "closed")

    def test_two_and_three_outs(self):
        # The second sum is reckoned with the first one's help, which is reckoned anew as an out.
        outs = (((1, 1, 0), K), ((1, 1, 1), K))
        self.assertEqual(self.judged((ABC, (), outs), 1), "program")
        self.assertEqual(self.judged((ABC, (), outs[::-1]), 1), "program")
        self.assertEqual(self.judged((ABC, (), (outs[1], outs[1])), 1), "closed")
        self.assertEqual(self.judged((ABC, (), (*outs, ((0, 1, -1), K2))), 1), "program")
        same = (((1, 1, 0), K),) * 3
        program = judge_free((ABC, (), same), 1)[1]
        self.assertEqual((len(program[2]), len(set(program[3]))), (3, 3))
        self.assertEqual(self.judged((ABC, (), same), 1), "program")

    def test_signed_means_of_what_is_wanted_fit(self):
        # With |a + b| and |a - b| at most B both inputs are, though they may be wider.
        wanted = ((("a", K2), ("b", K2)), (), (((1, 1), K), ((1, -1), K), ((2, 0), K2)))
        self.assertIn((1, 0), free_forms(wanted, 1))
        self.assertIn((-1, 0), free_forms(wanted, 1))
        self.assertEqual(self.judged(wanted, 1), "program")

    def test_names_of_the_program_are_not_those_of_inputs(self):
        for names in ("abcd", "dcba", "zafb"):
            ins = tuple((name, K) for name in names)
            self.assertEqual(self.judged((ins, (), (((1, 1, 1, 1), K),)), 3), "program")


class FreeForms(Asked):
    def test_by_the_rule_itself(self):
        rand = random.Random(62)
        many = 0
        while many < 40:
            wanted, k = wanted_at_will(rand, rand.choice((1, 2, 2, 3))), rand.choice((1, 1, 1, 2))
            if not is_roomy(len(wanted[0]) + 1, needs(wanted)):
                continue
            n = len(wanted[0])
            found = {tuple(int(k == at) for at in range(n)) for k in range(n)}
            more, known = set(found), {}
            while more and len(found) < 60:
                made = made_by(found)
                for form in made:
                    if form not in known:
                        known[form] = fits(wanted, k, form)
                more = {form for form in made if known[form]} - found
                found |= more
            if not more and len(found) <= 60:
                self.assertEqual(free_forms(wanted, k), tuple(sorted(found)))
                many += 1

    def test_each_fits_and_each_has_its_opposite_if_it_fits(self):
        rand = random.Random(63)
        for _ in range(20):
            wanted = wanted_at_will(rand, 2)
            if is_roomy(3, needs(wanted)):
                forms = free_forms(wanted, 1)
                self.assertEqual(forms, tuple(sorted(set(forms))))
                for form in forms:
                    self.assertTrue(form in ((1, 0), (0, 1)) or fits(wanted, 1, form))
                    if fits(wanted, 1, form):
                        self.assertIn(tuple(-x for x in form), forms)


class Judged(Asked):
    def test_made_at_will(self):
        rand = random.Random(64)
        words = []
        for _ in range(250):
            wanted, k = wanted_at_will(rand), rand.choice((1, 1, 2))
            if not is_roomy(len(wanted[0]) + 1, needs(wanted)):
                continue
            if len(wanted[0]) == 3 and k == 2:
                continue
            words.append(self.judged(wanted, k))
            paper = judge_free(wanted, k)
            if words[-1] == "program":
                self.runs(wanted, paper[1])
            else:
                self.assertEqual(paper[1], free_forms(wanted, k))
        self.assertGreater(min(words.count("program"), words.count("closed")), 20)

    def runs(self, wanted, program):
        """A free program ends wherever all need walls are kept, and trips elsewhere."""
        self.assertTrue(is_single(program))
        for bound in (1, 2):
            for given in all_given(program, bound):
                kept = all(total(wall, (*given, bound)) >= 0 for wall in needs(wanted))
                found = walked(program, bound, given)[1]
                self.assertEqual(found[0], "ends" if kept else "trips")
                if kept:
                    self.assertEqual(found[1], tuple(total(form, given) for form, _ in wanted[2]))

    def test_sixty_free_forms(self):
        ins = (("a", ("up", 3)), ("b", ("up", 3)), ("c", K), ("d", U2))
        outs = (((1, -1, 3, 2), K2), ((2, 0, 3, -3), K2), ((2, 3, 1, -3), K2))
        wanted = (ins, (), outs)
        self.assertEqual(len(free_forms(wanted, 2)), 58)
        self.assertEqual(self.judged(wanted, 2), "program")
        self.assertLessEqual(len(judge_free(wanted, 2)[1][2]), 24)
        # With one out that none of these make: all of them are told, and each paper with one less is refused.
        for far in ((3, 3, 3, 3), (-3, 2, 3, -3)):
            other = (ins, (), (*outs[:2], (far, ("both", 30))))
            if judge_free(other, 1)[0] == "closed":
                forms = judge_free(other, 1)[1]
                self.assertIs(free_holds(other, 1, ("closed", forms)), True)
                for at in range(len(forms)):
                    self.assertIs(free_holds(other, 1, ("closed", forms[:at] + forms[at + 1:])), False)


class Papers(Asked):
    def test_nearly_right_ones(self):
        refused = 0
        for wanted, k in ((ANY, 1), (ANY, 2), (UPS, 1), ((ABC[:2], (), (((1, 1), K), ((1, 0), K))), 1),
                          (((("a", U),), (), (((3,), ("up", 3)),)), 1)):
            paper = judge_free(wanted, k)
            for other in changed_once(paper):
                right = is_right(wanted, k, other)
                self.assertIs(free_holds(wanted, k, other), right, (wanted, k, other))
                refused += not right
        self.assertGreater(refused, 400)

    def test_programs(self):
        wanted = (ABC, (), (((1, 1, 1), K2), ((1, 1, 0), K)))
        good = (("plus", "d", K, "a", "b"), ("plus", "e", K2, "d", "c"), ("plus", "f", K, "b", "a"))

        def holds(body, outs=("e", "f"), ins=ABC, facts=(), k=1):
            return free_holds(wanted, k, ("program", (ins, facts, body, outs)))

        self.assertIs(holds(good), True)
        for body, more in (
                (good[:2], {}), (good[1:], {}), ((good[0], good[2], good[1]), {}), (good, {"outs": ("f", "e")}),
                (good, {"outs": ("e", "f", "f")}), (good, {"outs": ("e", "d")}), (good, {"k": 2}),
                (good, {"ins": (*ABC, ("g", K))}), (good, {"facts": (("a", "b"),)}),
                # Words other than sums, other kinds, and a name of the last ones on the right.
                ((*good[:2], ("plus", "f", U, "b", "a")), {}), ((("plus", "d", K2, "a", "b"), *good[1:]), {}),
                ((("plus", "d", K, "a", "b"), ("plus", "e", K, "d", "c"), good[2]), {}),
                ((good[0], good[1], ("minus", "f", K, "e", "c")), {}),
                ((("times", "z", K, 1, "a"), *good), {}), ((("least", "z", K, "a", "b"), *good), {}),
                # A value ahead that does not fit: a - b may be 2 B.
                ((("minus", "z", K, "a", "b"), *good), {})):
            self.assertIs(holds(body, **more), False, (body, more))
        self.assertIs(holds((("minus", "z", K, "a", "a"), *good)), True)
        self.assertIs(holds((good[0], ("plus", "z", K, "b", "a"), ("plus", "e", K2, "z", "c"), good[2])), True)

    def test_forms(self):
        forms = judge_free(ANY, 1)[1]
        self.assertIs(free_holds(ANY, 1, ("closed", forms)), True)
        self.assertIs(free_holds(ANY, 1, ("closed", forms[::-1])), False)
        self.assertIs(free_holds(ANY, 1, ("closed", forms + forms[-1:])), False)
        # More forms, as long as they are closed, and do not make the out.
        wide = ((("a", K), ("b", K)), (), (((2, 2), ("both", 4)),))
        found = judge_free(wide, 1)[1]
        more = tuple(sorted({(x, 0) for x in range(-9, 10)} | set(found)))
        self.assertIs(free_holds(wide, 1, ("closed", found)), True)
        self.assertIs(free_holds(wide, 1, ("closed", more)), is_right(wide, 1, ("closed", more)))
        self.assertIs(free_holds(wide, 1, ("closed", more)), True)
        self.assertIs(free_holds(ANY, 1, ("closed", tuple(sorted((*forms, (0, 5, 0)))))), True)
        self.assertIs(free_holds(ANY, 1, ("closed", tuple(sorted((*forms, (0, 1, 1)))))), False)
        # All free forms, but these make the out.
        self.assertIs(free_holds(UPS, 1, ("closed", free_forms(UPS, 1))), False)
        self.assertIs(free_holds(ANY, 2, ("closed", free_forms(ANY, 2))), False)

    def test_wider_registers(self):
        for k in (1, 2, 30):
            self.assertIs(free_holds(ANY, k, ("program", (ABC, (), (
                ("plus", "d", ("both", k), "a", "b"), ("plus", "e", K, "d", "c")), ("e",)))), k > 1)

    def test_any_values(self):
        for wanted in (ANY, UPS):
            for thing in (*ANY_VALUES, ("program",), ("program", None), ("closed", None), ("closed", ()),
                          ("closed", [(1, 0, 0)]), ("closed", (None,)), ("closed", ((1, 0, True),)), (["closed"], ()),
                          ("program", ANY), ("closed", ((10 ** 99, 0, 0),)), ("closed", tuple(map(str, range(3000))))):
                self.assertIs(free_holds(wanted, 1, thing), False)


class WrongInputs(unittest.TestCase):
    CALLS = (need_borders, free_forms, judge_free, lambda wanted, k: free_holds(wanted, k, None))

    def test_wanteds(self):
        out = ((1, 1, 1), K)
        for x in (*ANY_VALUES, list(ANY), ANY[:2], (*ANY, ()), (ABC, (), ()), (ABC, (), (out,) * 4), ((), (), (out,)),
                  (ABC, (("a", "a"),), (out,)), (ABC, (), [out]), (ABC, (), (((1, 1), K),)), (ABC, (), (((1, 1, True), K),)),
                  (ABC, (), ((out[0], ("both", 31)),)), (ABC, (), ((out[0],),)), (ABC, (), (out, None)),
                  (ABC, (("b", "a"), ("a", "b")), (out,)), ((("a", K), ("a", K), ("b", K)), (), (out,))):
            for call in self.CALLS:
                self.assertIs(caught(BadWanted, call, x, None), x)

    def test_numbers(self):
        for x in (*ANY_VALUES, 0, 31, -1, "1", (1,), [1]):
            if type(x) is not int or not 1 <= x <= 30:
                for call in self.CALLS:
                    self.assertIs(caught(BadNumber, call, ANY, x), x)

    def test_needs_that_are_not_roomy(self):
        for wanted in ((ABC, (("a", "b"), ("b", "a")), (((1, 1, 1), K),)),
                       (ABC, (), (((1, 0, 0), U), ((-1, 0, 0), U))), ((("a", U),), (), (((-1,), U),)),
                       (UPS[0], (("a", "b"),), (((1, -1, 0), U),))):
            self.assertFalse(is_roomy(len(wanted[0]) + 1, needs(wanted)))
            for call in self.CALLS:
                self.assertIsNone(caught(NotRoomy, call, wanted, 1))
                self.assertEqual(caught(BadNumber, call, wanted, 0), 0)
        # Walls of zeros alone do not count: the sum of nothing in a register "up".
        self.assertEqual(judge_free((ABC, (), (((0, 0, 0), U),)), 1)[0], "program")

    def test_functions_are_defined_there(self):
        for name in ("need_borders", "free_forms", "judge_free", "free_holds"):
            self.assertEqual(getattr(module, name).__module__, "tripmeans.free")
        self.assertTrue(does_follow(2, ((1, 0),), (), (2, 1)))


if __name__ == "__main__":
    unittest.main()
