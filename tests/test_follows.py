"""[1.2]: what follows; each paper is checked by the document's words, whichever one was returned."""

import random
import unittest

from support import (ANY_VALUES, box, changed_once, is_follows_paper, most_digits, question, row, summed, total)
from tripmeans.walls import does_follow, follows_holds, judge_follows

ONE = ((-1, 1), (1, 1))
FAR = 10 ** 6

# width, walls, stricts, wall, whether it follows
BY_HAND = (
    (2, ONE, (), (1, 2), True), (2, ONE, (), (-2, 1), False),
    (2, ONE, (), (-1, 1), True), (2, ONE, (), (-2, 2), True), (2, ONE, (), (-1, 0), False),
    # No walls at all: only the bound is known to be above 0.
    (2, (), (), (0, 0), True), (2, (), (), (0, 1), True), (2, (), (), (0, -1), False), (2, (), (), (1, 0), False),
    (8, (), (), (0,) * 8, True), (8, (), (), (0,) * 7 + (FAR,), True), (8, (), (), (1,) + (0,) * 7, False),
    # Walls of zeros tell nothing; a strict one of zeros can not be kept, so all follows.
    (3, ((0, 0, 0),), (), (1, 0, 0), False), (3, (), ((0, 0, 0),), (1, 0, 0), True),
    (3, (), ((0, 0, 0),), (0, 0, -1), True),
    # A wall and its opposite leave a line, two of them the bound alone.
    (3, ((1, -1, 0), (-1, 1, 0)), (), (2, -2, 0), True), (3, ((1, -1, 0), (-1, 1, 0)), (), (-2, 2, 0), True),
    (3, ((1, -1, 0), (-1, 1, 0)), (), (1, 1, 0), False),
    (3, ((1, -1, 0), (-1, 1, 0), (1, 1, -2), (-1, -1, 2)), (), (-1, 0, 1), True),
    (3, ((1, -1, 0), (-1, 1, 0), (1, 1, -2), (-1, -1, 2)), (), (1, 0, -2), False),
    # A strict wall and its opposite leave nothing, so all follows; two walls leave the edge.
    (2, ((-1, 0),), ((1, 0),), (-5, -7), True), (2, ((-1, 0), (1, 0)), (), (-5, -7), False),
    (2, ((-1, 0), (1, 0)), (), (-5, 7), True), (2, ((-1, 0), (1, 0)), (), (5, 0), True),
    # Strictly above 0 is also not below 0, and no more than that.
    (2, (), ((1, 0),), (1, 0), True), (2, (), ((1, 0),), (2, -1), False),
    (2, (), ((1, 0), (-1, 1)), (1, 0), True), (2, (), ((1, 0), (-1, 1)), (-2, 1), False),
    # The bound is above 0, so walls that hold it below 0 leave nothing.
    (2, ((0, -1),), (), (-1, -1), True), (3, ((0, 1, -1), (0, -1, 0)), (), (1, 1, -9), True),
    (3, ((0, -1, 0), (0, 1, 0)), (), (1, 0, 0), False),
    # Sums, and multiples.
    (4, ((1, 0, 0, 1), (0, 1, 0, 1), (0, 0, 1, 1)), (), (1, 1, 1, 3), True),
    (4, ((1, 0, 0, 1), (0, 1, 0, 1), (0, 0, 1, 1)), (), (1, 1, 1, 2), False),
    (4, ((2, 0, 0, 3), (0, 3, 0, 5)), (), (3, 3, 0, 10), True),
    (4, ((2, 0, 0, 3), (0, 3, 0, 5)), (), (3, 3, 0, 9), False),
    (2, ((FAR, -1),), (), (FAR, -2), False), (2, ((FAR, -2),), (), (FAR, -1), True),
    (2, ((FAR, 1 - FAR),), (), (FAR - 1, 2 - FAR), True), (2, ((FAR - 1, 2 - FAR),), (), (FAR, 1 - FAR), False),
)


def hadamard(many):
    rows = [[1]]
    while len(rows) < many:
        rows = [r + r for r in rows] + [r + [-x for x in r] for r in rows]
    return rows


class Follows(unittest.TestCase):
    def judged(self, width, walls, stricts, wall):
        """The word of the paper that is returned, checked by the document's words."""
        paper = judge_follows(width, walls, stricts, wall)
        self.assertTrue(is_follows_paper(width, walls, stricts, wall, paper), (width, walls, stricts, wall, paper))
        self.assertIs(follows_holds(width, walls, stricts, wall, paper), True)
        self.assertIs(does_follow(width, walls, stricts, wall), paper[0] == "weights")
        self.assertLessEqual(most_digits(paper), 60)
        return paper[0]

    def test_by_hand(self):
        for width, walls, stricts, wall, follows in BY_HAND:
            word = self.judged(width, walls, stricts, wall)
            self.assertEqual(word, "weights" if follows else "point", (width, walls, stricts, wall))

    def test_the_examples(self):
        self.assertIs(does_follow(2, ONE, (), (1, 2)), True)
        self.assertIs(follows_holds(2, ONE, (), (1, 2), ("weights", 1, (0, 1), (), 1)), True)
        self.assertEqual(judge_follows(2, ONE, (), (-2, 1))[0], "point")
        self.assertIs(follows_holds(2, ONE, (), (-2, 1), ("point", (1, 1))), True)

    def test_all_shapes(self):
        rand = random.Random(1)
        words = [self.judged(*question(rand)) for _ in range(1500)]
        self.assertGreater(words.count("point"), 300)
        self.assertGreater(words.count("weights"), 300)

    def test_many_walls_meet_in_one_point(self):
        rand = random.Random(2)
        for far in (1, 3, 1000):
            point = (*row(rand, 7, 3), 1)
            walls = [row(rand, 8, far) for _ in range(79)]
            walls = tuple((*w[:-1], w[-1] - total(w, point)) for w in walls)
            self.assertEqual(self.judged(8, walls, (), (1,) + (0,) * 7), "weights" if point[0] >= 0 else "point")
            for wall in walls[:10]:
                self.assertEqual(self.judged(8, walls, (), wall), "weights")
                self.judged(8, walls, (), tuple(-x for x in wall))
                self.judged(8, walls[:40], walls[40:60], wall)

    def test_walls_and_stricts_to_eighty(self):
        rand = random.Random(3)
        for far in (1, 2, 9, FAR):
            point = (*row(rand, 7, 5), 3)
            walls = [row(rand, 8, far) for _ in range(80)]
            walls = tuple(w if total(w, point) >= 0 else tuple(-x for x in w) for w in walls)
            for cut in (80, 60, 0):
                stricts = tuple(w for w in walls[cut:] if total(w, point))
                for _ in range(3):
                    self.judged(8, walls[:cut], stricts, row(rand, 8, far))
                mixed = tuple(sum(xs) for xs in zip(*rand.sample(walls, 5)))
                self.assertEqual(self.judged(8, walls, (), mixed), "weights")

    def test_integers_stay_short(self):
        # Rows of this matrix have the greatest determinants that there are.
        rows = [tuple(FAR * x for x in r) for r in hadamard(8)]
        near = [tuple(x - k - at for at, x in enumerate(r)) for k, r in enumerate(rows)]
        for walls in (rows, near, rows + near):
            for k in range(8):
                for sign in (-1, 1):
                    wall = [sign * (at == k) for at in range(8)]
                    self.judged(8, tuple(walls), (), tuple(wall))
                    self.judged(8, (), tuple(walls), tuple(FAR * x for x in wall))
        rand = random.Random(4)
        for _ in range(10):
            walls = tuple(tuple(rand.choice((FAR, FAR - 1, -FAR, 1 - FAR)) for _ in range(8)) for _ in range(12))
            self.judged(8, walls[:8], walls[8:10], walls[11])

    def test_equal_integers_far_apart(self):
        walls = tuple(tuple((-1) ** j * min(FAR, (k + 1) ** j) for j in range(8)) for k in range(78))
        for wall in walls[::13]:
            self.assertEqual(self.judged(8, walls, (), wall), "weights")
            self.judged(8, walls, (), tuple(-x for x in wall))

    def test_beyond_the_limits_it_is_answered_too(self):
        wall = (10 ** 9, 1, -10 ** 9)
        self.assertEqual(self.judged(3, (wall,) * 80, (wall,) * 80, wall), "weights")


class Papers(unittest.TestCase):
    def agree(self, width, walls, stricts, wall, thing):
        found = follows_holds(width, walls, stricts, wall, thing)
        self.assertIs(found, is_follows_paper(width, walls, stricts, wall, thing), (walls, stricts, wall, thing))
        return found

    def test_nearly_right_ones(self):
        rand = random.Random(5)
        for _ in range(60):
            asked = question(rand)
            if len(asked[1]) + len(asked[2]) > 6:
                continue
            for thing in changed_once(judge_follows(*asked)):
                self.agree(*asked, thing)

    def test_any_value_is_answered(self):
        for thing in ANY_VALUES:
            self.assertIs(follows_holds(2, ONE, (), (1, 2), thing), False)
            self.assertIs(follows_holds(2, ONE, (), (1, 2), ("point", thing)), False)
            for k in range(1, 5):
                paper = ["weights", 1, (0, 1), (), 1]
                paper[k] = thing
                if thing != [1, 1, (0, 1), (), 1][k] or type(thing) is bool:
                    self.assertIs(follows_holds(2, ONE, (), (1, 2), tuple(paper)), False, thing)

    def test_points(self):
        asked = (2, ((1, 0),), ((-1, 3),), (-1, 1))
        for point, right in (((2, 1), True), ((4, 2), True), ((20, 10), True), ((1, 1), False), ((0, 1), False),
                             ((3, 1), False), ((4, 1), False), ((2, 0), False), ((-2, -1), False), ((2, 1, 1), False),
                             ((2,), False), ((2, True), False), ([2, 1], False)):
            self.assertIs(follows_holds(*asked, ("point", point)), right, point)
        self.assertIs(follows_holds(*asked, ("point", (2, 1), ())), False)
        self.assertIs(follows_holds(*asked, ("point",)), False)
        self.assertIs(follows_holds(*asked, ["point", (2, 1)]), False)
        self.assertIs(follows_holds(2, ((1, 0),), ((1, 0),), (-1, 0), ("point", (0, 1))), False)
        self.assertIs(follows_holds(2, ((1, 0),), (), (-1, -1), ("point", (0, 1))), True)

    def test_weights(self):
        asked = (2, ((1, 1),), ((-1, 3),), (0, 2))
        for paper, right in ((("weights", 2, (1,), (1,), 0), True), (("weights", 4, (2,), (2,), 0), True),
                             (("weights", 1, (0,), (0,), 2), True), (("weights", 3, (1,), (1,), 2), True),
                             (("weights", 2, (1,), (1,), 1), False), (("weights", 0, (0,), (0,), 0), False),
                             (("weights", 1, (-1,), (-1,), 6), False), (("weights", -2, (-1,), (-1,), 0), False),
                             (("weights", 3, (2,), (2,), -2), False), (("weights", True, (0,), (0,), 2), False),
                             (("weights", 1, (False,), (0,), 2), False), (("weights", 1, (0,), [0], 2), False),
                             (("weights", 1, (0, 0), (0,), 2), False), (("weights", 1, (0,), (), 2), False),
                             (("point", 2, (1,), (1,), 0), False), (("weights", 2, (1,), (1,)), False),
                             (("weights", 2, (1,), (1,), 0, 0), False), (("none", (1,), (1,), 0), False)):
            self.assertIs(follows_holds(*asked, paper), right, paper)
        most = 10 ** 59
        self.assertIs(follows_holds(*asked, ("weights", 2 * most, (most,), (most,), 0)), True)

    def test_weights_of_nothing_need_an_empty_room(self):
        # m is 0: then it must be told that the room is empty, which weights of the walls alone do not.
        asked = (2, ((1, 0), (-1, 0)), ((0, -1),), (5, -5))
        self.assertIs(follows_holds(*asked, ("weights", 0, (0, 0), (1,), 1)), True)
        self.assertIs(follows_holds(*asked, ("weights", 0, (1, 1), (1,), 1)), True)
        self.assertIs(follows_holds(*asked, ("weights", 0, (1, 1), (0,), 0)), False)
        self.assertEqual(summed(2, asked[1], asked[2], (1, 1), (0,), 0), [0, 0])

    def test_boxes_in_all_widths(self):
        for width in range(2, 9):
            walls = box(width)
            for wall, follows in (((1,) * (width - 1) + (width - 1,), True), ((1,) * (width - 1) + (width - 2,), False),
                                  ((-1,) + (0,) * (width - 2) + (1,), True),
                                  ((-2,) + (0,) * (width - 2) + (1,), False)):
                paper = judge_follows(width, walls, (), wall)
                self.assertEqual(paper[0], "weights" if follows else "point")
                self.agree(width, walls, (), wall, paper)


if __name__ == "__main__":
    unittest.main()
