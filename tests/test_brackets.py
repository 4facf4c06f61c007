"""Part 8: trees, lots, papers about which tree never trips more, and best trees."""

import itertools
import random
import unittest

from later_words import is_tree_paper, lots, tree_trips
from support import ANY_VALUES, caught, changed_once, most_digits
from tripmeans import brackets as module
from tripmeans.brackets import (all_trees, best_trees, is_tree, judge_trees, lots_of, plain_tree, tree_program,
                                trees_hold)
from tripmeans.errors import BadItems, BadNumber, BadTree
from tripmeans.programs import is_program
from tripmeans.single import judge_never_more
from words import all_given, walked

K, U = ("both", 1), ("up", 1)
LEFT, RIGHT, PAIRS = (((0, 1), 2), 3), (0, (1, (2, 3))), ((0, 1), (3, 2))
NO_NUMBERS = tuple(x for x in (*ANY_VALUES, 1, 7, 0, -1, "3", (3,)) if type(x) is not int or not 2 <= x <= 6)


def swapped(rand, tree):
    """A tree with some sides exchanged."""
    if type(tree) is int:
        return tree
    pair = (swapped(rand, tree[0]), swapped(rand, tree[1]))
    return pair if rand.randrange(2) else pair[::-1]


def at_will(rand, n):
    parts = list(range(n))
    while len(parts) > 1:
        one, other = (parts.pop(rand.randrange(len(parts))) for _ in range(2))
        parts.append((one, other))
    return parts[0]


def is_plain(tree):
    if type(tree) is int:
        return True
    return min(lots(tree[0])[1]) < min(lots(tree[1])[1]) and is_plain(tree[0]) and is_plain(tree[1])


class Trees(unittest.TestCase):
    def test_the_examples(self):
        self.assertEqual([is_tree(3, ((0, 1), 1)), lots_of(4, PAIRS), plain_tree(4, PAIRS), len(all_trees(4))],
                         [False, ((0, 1), (0, 1, 2, 3), (2, 3)), ((0, 1), (2, 3)), 15])
        self.assertEqual(all_trees(3), (((0, 1), 2), ((0, 2), 1), (0, (1, 2))))

    def test_is_tree(self):
        for n, thing, right in ((2, (0, 1), True), (2, (1, 0), True), (2, 0, False), (2, (0,), False), (2, (0, 0), False),
                                (2, (0, 1, 1), False), (2, [0, 1], False), (2, (False, True), False), (2, (1, 2), False),
                                (3, (0, 1), False), (3, ((2, 1), 0), True), (3, (0, 1, 2), False), (3, ([0, 1], 2), False),
                                (3, ((0, 1), (2,)), False), (3, ((0, 1), (2, 3)), False), (4, LEFT, True), (5, LEFT, False),
                                (4, ((0, 1), (2, "3")), False), (4, ((0, -1), (2, 1)), False), (2, ((0, 1), ()), False),
                                (6, (5, (4, (3, (2, (1, 0))))), True), (6, ((5, 4), ((3, 2), (1, 0))), True)):
            self.assertIs(is_tree(n, thing), right, (n, thing))
        deep = 0
        for _ in range(9):
            deep = (deep, 1)
        for n in range(2, 7):
            for thing in (*ANY_VALUES, deep, (deep, deep)):
                self.assertIs(is_tree(n, thing), False)

    def test_all_trees(self):
        for n, many in ((2, 1), (3, 3), (4, 15), (5, 105), (6, 945)):
            found = all_trees(n)
            told = [tuple(lots(tree)[0]) for tree in found]
            self.assertEqual((len(found), told), (many, sorted(set(told))))
            self.assertTrue(all(is_tree(n, tree) and is_plain(tree) for tree in found))
            self.assertEqual([lots_of(n, tree) for tree in found], told)
            self.assertEqual([plain_tree(n, tree) for tree in found], list(found))

    def test_lots_and_plain_trees_made_at_will(self):
        rand = random.Random(71)
        for n in range(2, 7):
            known = {tuple(lots(tree)[0]): tree for tree in all_trees(n)}
            for _ in range(60):
                tree = at_will(rand, n)
                found = lots_of(n, tree)
                self.assertEqual(found, tuple(lots(tree)[0]))
                self.assertEqual(plain_tree(n, tree), known[found])
                self.assertEqual(plain_tree(n, swapped(rand, tree)), known[found])


class Judged(unittest.TestCase):
    def judged(self, items, one, other):
        paper = judge_trees(items, one, other)
        self.assertTrue(is_tree_paper(items, one, other, paper), (items, one, other, paper))
        self.assertIs(trees_hold(items, one, other, paper), True)
        self.assertLessEqual(most_digits(paper), 60)
        return paper[0] == "weights"

    def test_the_examples(self):
        other = ((0, 2), (1, 3))
        self.assertFalse(self.judged((0, 0, 0, 0), LEFT, RIGHT))
        self.assertTrue(self.judged((1, 1, 1, 1), LEFT, RIGHT))
        self.assertIs(trees_hold((1, 1, -1, -1), LEFT, other, ("trips", 1, (1, 1, 0, 0))), False)
        self.assertTrue(self.judged((1, 1, -1, -1), LEFT, other))

    def test_of_any_sign_the_lots_alone_count(self):
        rand = random.Random(72)
        for n in (2, 3, 4):
            for one in all_trees(n):
                for other in all_trees(n):
                    self.assertEqual(self.judged((0,) * n, one, swapped(rand, other)), one == other)
        for n in (5, 6):
            for _ in range(8):
                one, other = at_will(rand, n), at_will(rand, n)
                self.assertEqual(self.judged((0,) * n, one, other), lots(one)[0] == lots(other)[0])

    def test_of_one_sign_all_trip_alike(self):
        rand = random.Random(73)
        for n in range(2, 7):
            for sign in (1, -1):
                for _ in range(12):
                    self.assertTrue(self.judged((sign,) * n, at_will(rand, n), at_will(rand, n)))

    def test_as_their_programs(self):
        rand = random.Random(74)
        words = []
        for _ in range(200):
            n = rand.choice((3, 4, 4, 5, 6))
            items = tuple(rand.choice((-1, 0, 1, 1)) for _ in range(n))
            one, other = at_will(rand, n), at_will(rand, n)
            words.append(self.judged(items, one, other))
            programs = (tree_program(items, one), tree_program(items, other))
            self.assertEqual(words[-1], judge_never_more(*programs)[0] == "weights")
            if words[-1]:
                for _ in range(30):
                    bound = rand.randint(1, 6)
                    inputs = tuple(rand.randint(0 if item else -bound, bound) for item in items)
                    self.assertFalse(tree_trips(items, other, bound, inputs)
                                     and not tree_trips(items, one, bound, inputs))
        self.assertGreater(min(words.count(True), words.count(False)), 30)

    def test_nearly_right_papers(self):
        refused = 0
        for items, one, other in (((0, 1, -1), ((0, 1), 2), (0, (1, 2))), ((1, 1, -1), ((0, 2), 1), ((0, 1), 2)),
                                  ((1, 1, -1), ((0, 1), 2), ((0, 2), 1)), ((-1, 0), (0, 1), (1, 0))):
            paper = judge_trees(items, one, other)
            for thing in changed_once(paper):
                right = is_tree_paper(items, one, other, thing)
                self.assertIs(trees_hold(items, one, other, thing), right, (items, one, other, thing))
                refused += not right
        self.assertGreater(refused, 500)

    def test_points(self):
        items, one, other = (1, 1, -1), (0, (1, 2)), ((0, 1), 2)
        for thing, right in ((("trips", 1, (1, 1, 1)), True), (("trips", 3, (3, 1, 1)), True),
                             (("trips", 10 ** 55, (10 ** 55, 1, 1)), True), (("trips", 1, (1, 1, 0)), False),
                             (("trips", 1, (1, 2, 2)), False), (("trips", 1, (1, 1, -1)), False),
                             (("trips", 1, (1, 1)), False), (("trips", 1, [1, 1, 1]), False),
                             (("trips", True, (1, 1, 1)), False), (("trips", 0, (0, 0, 0)), False),
                             (("trips", 1, (1, 1, True)), False), (("weights", 1, (1, 1, 1)), False)):
            self.assertIs(trees_hold(items, one, other, thing), right, thing)
        for thing in (*ANY_VALUES, ("weights",), ("weights", ()), ("weights", None), ("trips", 1, None), (["trips"], 1, ())):
            self.assertIs(trees_hold(items, one, other, thing), False)


class Programs(unittest.TestCase):
    def test_the_example(self):
        self.assertEqual(tree_program((0, -1), (0, 1)), (
            (("a", K), ("b", U)), (), (("times", "c", K, -1, "b"), ("plus", "d", K, "a", "c")), ("d",)))

    def test_by_hand(self):
        self.assertEqual(tree_program((-1, 1, 0, -1), ((3, 1), (2, 0))), (
            (("a", U), ("b", U), ("c", K), ("d", U)), (),
            (("times", "e", K, -1, "a"), ("times", "f", K, -1, "d"), ("plus", "g", K, "e", "c"),
             ("plus", "h", K, "b", "f"), ("plus", "i", K, "g", "h")), ("i",)))
        self.assertEqual(tree_program((1, 1, 1, 1, 1), (((2, 0), (4, 3)), 1))[2], (
            ("plus", "f", K, "a", "c"), ("plus", "g", K, "d", "e"), ("plus", "h", K, "f", "g"),
            ("plus", "i", K, "h", "b")))

    def test_runs(self):
        rand = random.Random(75)
        for _ in range(60):
            n = rand.randint(2, 6)
            items = tuple(rand.choice((-1, 0, 1)) for _ in range(n))
            tree = at_will(rand, n)
            program = tree_program(items, tree)
            self.assertTrue(is_program(program))
            self.assertEqual(len(program[2]), n - 1 + items.count(-1))
            self.assertEqual(program, tree_program(items, swapped(rand, tree)))
            for given in all_given(program, 2)[::7]:
                found = walked(program, 2, given)[1]
                self.assertEqual(found[0] == "trips", tree_trips(items, tree, 2, given))
                if found[0] == "ends":
                    self.assertEqual(found[1], (sum(-x if item == -1 else x for item, x in zip(items, given)),))


class BestTrees(unittest.TestCase):
    def best(self, items):
        trees = all_trees(len(items))
        more = {(one, other): judge_trees(items, one, other)[0] == "weights" for one in trees for other in trees}
        return tuple(tree for tree in trees if all(more[other, tree] for other in trees if more[tree, other]))

    def test_the_example(self):
        self.assertEqual(best_trees((1, 1, -1)), (((0, 2), 1), (0, (1, 2))))

    def test_by_the_rule_itself(self):
        for n in (2, 3):
            for items in itertools.product((-1, 0, 1), repeat=n):
                self.assertEqual(best_trees(items), self.best(items), items)
        for items in ((1, 1, -1, -1), (0, 1, -1, 1), (0, 0, 1, -1), (-1, 1, 1, 1), (0, -1, -1, 1)):
            self.assertEqual(best_trees(items), self.best(items), items)

    def test_where_all_are_best(self):
        for items in ((0, 0, 0, 0), (1, 1, 1, 1), (-1, -1, -1, -1)):
            self.assertEqual(best_trees(items), all_trees(4))
        self.assertEqual(best_trees((0, 1)), ((0, 1),))


class WrongInputs(unittest.TestCase):
    def test_numbers(self):
        for x in NO_NUMBERS:
            self.assertIs(caught(BadNumber, is_tree, x, (0, 1)), x)
            self.assertIs(caught(BadNumber, lots_of, x, None), x)
            self.assertIs(caught(BadNumber, plain_tree, x, None), x)
            self.assertIs(caught(BadNumber, all_trees, x), x)

    def test_trees(self):
        for x in (*ANY_VALUES, (0, 1), ((0, 1), 2, 3), [0, (1, 2)], ((0, 1), 3), ((0, 1), True)):
            self.assertIs(caught(BadTree, lots_of, 3, x), x)
            self.assertIs(caught(BadTree, plain_tree, 3, x), x)
            self.assertIs(caught(BadTree, tree_program, (0, 1, -1), x), x)
            for call in (judge_trees, lambda items, one, other: trees_hold(items, one, other, None)):
                self.assertIs(caught(BadTree, call, (0, 1, -1), x, None), x)
                self.assertIs(caught(BadTree, call, (0, 1, -1), ((0, 1), 2), x), x)

    def test_items(self):
        for x in (*ANY_VALUES, (0,), (0,) * 7, (0, 2), (0, -2), (0, True), [0, 1], ("0", 1), (1, None)):
            self.assertIs(caught(BadItems, judge_trees, x, None, None), x)
            self.assertIs(caught(BadItems, trees_hold, x, None, None, None), x)
            self.assertIs(caught(BadItems, tree_program, x, None), x)
            self.assertIs(caught(BadItems, best_trees, x), x)

    def test_functions_are_defined_there(self):
        for name in ("is_tree", "lots_of", "plain_tree", "all_trees", "judge_trees", "trees_hold", "tree_program",
                     "best_trees"):
            self.assertEqual(getattr(module, name).__module__, "tripmeans.brackets")


if __name__ == "__main__":
    unittest.main()
