"""[1.3] and [1.4]: empty rooms, roomy walls, plain walls."""

import itertools
import random
import unittest
from math import gcd

from support import (ANY_VALUES, box, changed_once, is_empty_paper, is_follows_paper, is_room_point, most_digits,
                     question, row, total)
from tripmeans.errors import NotRoomy
from tripmeans.walls import empty_holds, is_roomy, judge_empty, judge_follows, plain_borders

ONE = ((-1, 1), (1, 1))
FAR = 10 ** 6

# width, walls, stricts, whether the room is empty
BY_HAND = (
    (2, ONE, ((1, -1),), True), (2, ONE, (), False), (2, (), (), False), (8, (), (), False),
    (2, ((0, 0),), (), False), (2, (), ((0, 0),), True), (2, ((0, -1),), (), True), (2, ((0, 1),), (), False),
    (2, (), ((0, 1),), False), (2, (), ((0, -1),), True), (2, ((1, 0), (-1, 0)), (), False),
    (2, ((1, 0),), ((-1, 0),), True), (2, (), ((1, 0), (-1, 1)), False), (2, (), ((1, -1), (-1, 1)), True),
    (3, ((1, -1, 0), (-1, 1, 0)), ((1, 1, 0),), False), (3, ((1, -1, 0), (-1, 1, 0)), ((1, -1, 0),), True),
    (3, ((1, 0, -1), (-1, 0, 1), (0, 1, -2), (0, -1, 2)), (), False),
    (3, ((1, 0, -1), (-1, 0, 1), (0, 1, -2), (0, -1, 2)), ((1, 1, -3),), True),
    (3, ((1, 0, -1), (-1, 0, 1), (0, 1, -2), (0, -1, 2)), ((1, 1, -2),), False),
    (2, ((2, -1), (-3, 1)), (), True), (2, ((2, -1), (-2, 1)), (), False), (2, ((2, -1),), ((-2, 1),), True),
    (2, ((FAR, 1 - FAR), (1 - FAR, FAR - 2)), (), True), (2, ((FAR, 1 - FAR), (1 - FAR, FAR - 1)), (), False),
)


class EmptyRooms(unittest.TestCase):
    def judged(self, width, walls, stricts):
        paper = judge_empty(width, walls, stricts)
        self.assertTrue(is_empty_paper(width, walls, stricts, paper), (width, walls, stricts, paper))
        self.assertIs(empty_holds(width, walls, stricts, paper), True)
        self.assertLessEqual(most_digits(paper), 60)
        return paper[0]

    def test_by_hand(self):
        for width, walls, stricts, empty in BY_HAND:
            word = self.judged(width, walls, stricts)
            self.assertEqual(word, "none" if empty else "point", (width, walls, stricts))

    def test_the_examples(self):
        self.assertEqual(judge_empty(2, ONE, ((1, -1),))[0], "none")
        self.assertIs(empty_holds(2, ONE, ((1, -1),), ("none", (1, 0), (1,), 0)), True)
        self.assertEqual(judge_empty(2, ONE, ())[0], "point")

    def test_all_shapes(self):
        rand = random.Random(11)
        words = [self.judged(*question(rand)[:3]) for _ in range(1500)]
        self.assertGreater(words.count("point"), 300)
        self.assertGreater(words.count("none"), 100)

    def test_walls_and_stricts_to_eighty(self):
        rand = random.Random(12)
        for far in (1, 3, FAR):
            walls = tuple(row(rand, 8, far) for _ in range(80))
            for cut in (80, 40, 0):
                self.judged(8, walls[:cut], walls[cut:])
            point = (*row(rand, 7, 5), 2)
            walls = tuple(w if total(w, point) >= 0 else tuple(-x for x in w) for w in walls)
            self.assertEqual(self.judged(8, walls, ()), "point")
            stricts = tuple(w for w in walls if total(w, point))[:40]
            self.assertEqual(self.judged(8, walls[:40], stricts), "point")
            against = tuple(-sum(xs) for xs in zip(*walls[:7]))
            self.assertEqual(self.judged(8, walls[:40], (*stricts[:39], against)), "none")

    def test_a_room_that_is_only_a_point_a_line_or_a_face(self):
        for many in range(1, 8):
            # So many of the inputs are held to what the bound makes of them.
            walls = []
            for at in range(many):
                wall = [0] * 8
                wall[at], wall[-1] = 3, -at - 1
                walls += [tuple(wall), tuple(-x for x in wall)]
            self.assertEqual(self.judged(8, tuple(walls), ()), "point")
            point = judge_empty(8, tuple(walls), ())[1]
            self.assertTrue(all(3 * point[at] == (at + 1) * point[-1] for at in range(many)))
            self.assertEqual(self.judged(8, tuple(walls[1:]), (walls[0],)), "none")
            self.assertEqual(self.judged(8, tuple(walls), ((3,) + (0,) * 6 + (-2,),)), "none")


class Papers(unittest.TestCase):
    def test_nearly_right_ones(self):
        rand = random.Random(13)
        for _ in range(60):
            asked = question(rand)[:3]
            if len(asked[1]) + len(asked[2]) > 6:
                continue
            for thing in changed_once(judge_empty(*asked)):
                right = is_empty_paper(*asked, thing)
                self.assertIs(empty_holds(*asked, thing), right, (asked, thing))

    def test_any_value_is_answered(self):
        for thing in ANY_VALUES:
            self.assertIs(empty_holds(2, ONE, ((1, -1),), thing), False)
            self.assertIs(empty_holds(2, ONE, ((1, -1),), ("point", thing)), False)
            for k in range(1, 4):
                paper = ["none", (1, 0), (1,), 0]
                paper[k] = thing
                if thing != [(), (1, 0), (1,), 0][k] or type(thing) is bool:
                    self.assertIs(empty_holds(2, ONE, ((1, -1),), tuple(paper)), False, thing)

    def test_points(self):
        asked = (2, ((1, 0),), ((-1, 3),))
        for point, right in (((0, 1), True), ((2, 1), True), ((3, 1), False), ((-1, 1), False), ((0, 0), False),
                             ((0, -1), False), ((0, True), False), ([0, 1], False), ((0, 1, 1), False)):
            self.assertIs(empty_holds(*asked, ("point", point)), right, point)
        self.assertIs(empty_holds(*asked, ("point", (0, 1), ())), False)

    def test_weights(self):
        asked = (2, ((1, 0), (-1, 0)), ((0, -1), (0, -2)))
        for paper, right in ((("none", (0, 0), (1, 0), 1), True), (("none", (5, 5), (1, 0), 1), True),
                             (("none", (0, 0), (1, 1), 3), True), (("none", (1, 1), (0, 0), 0), False),
                             (("none", (0, 0), (0, 0), 0), False), (("none", (0, 0), (-2, 1), 0), False),
                             (("none", (-1, -1), (1, 0), 1), False), (("none", (0, 0), (-1, 0), -1), False),
                             (("none", (0, 0), (True, 0), 1), False), (("none", (0, 0), (1, 0), True), False),
                             (("none", (0, 0, 0), (1, 0), 1), False), (("none", (0, 0), (1,), 1), False),
                             (("none", [0, 0], (1, 0), 1), False), (("none", (0, 0), (1, 0)), False),
                             (("none", (0, 0), (1, 0), 1, 0), False), (("weights", (0, 0), (1, 0), 1), False),
                             (("weights", 0, (0, 0), (1, 0), 1), False)):
            self.assertIs(empty_holds(*asked, paper), right, paper)
        most = 10 ** 59
        self.assertIs(empty_holds(*asked, ("none", (most, most), (most, most), 3 * most)), True)


class PlainWalls(unittest.TestCase):
    def checked(self, width, walls):
        """The plain walls, after all that [1.4] says of them was found to be so."""
        plain = plain_borders(width, walls)
        self.assertIsInstance(plain, tuple)
        self.assertEqual(list(plain), sorted(set(plain)))
        divided = {tuple(x // gcd(*w) for x in w) for w in walls if any(w)}
        for k, wall in enumerate(plain):
            self.assertEqual(gcd(*wall), 1)
            self.assertIn(wall, divided)
            others = plain[:k] + plain[k + 1:]
            paper = judge_follows(width, others, (), wall)
            self.assertEqual(paper[0], "point")
            self.assertTrue(is_follows_paper(width, others, (), wall, paper))
        for wall in walls:
            paper = judge_follows(width, plain, (), wall)
            self.assertEqual(paper[0], "weights")
            self.assertTrue(is_follows_paper(width, plain, (), wall, paper))
        return plain

    def test_the_examples(self):
        self.assertIs(is_roomy(2, ((1, 0), (-1, 0))), False)
        self.assertEqual(plain_borders(2, ((-1, 1), (1, 1), (-1, 2), (-2, 2), (0, 0))), ((-1, 1), (1, 1)))
        self.assertRaises(NotRoomy, plain_borders, 2, ((1, 0), (-1, 0)))

    def test_roomy_by_hand(self):
        for width, walls, roomy in ((2, (), True), (8, (), True), (2, ((0, 0),), True), (2, ((0, 0), (1, 0)), True),
                                    (2, ((0, 1),), True), (2, ((0, -1),), False), (2, ((1, 0), (-1, 0)), False),
                                    (2, ((1, 0), (-1, 1)), True), (2, ((1, 0), (-2, 0), (5, 5)), False),
                                    (2, ((2, -1), (-3, 2)), True), (2, ((2, -1), (-4, 2)), False),
                                    (3, ((1, 0, 0), (0, 1, 0), (-1, -1, 0)), False),
                                    (3, ((1, 0, 0), (0, 1, 0), (-1, -1, 1)), True),
                                    (8, box(8), True), (8, box(8) + ((1,) * 7 + (-7,),), False),
                                    (8, box(8) + ((1,) * 7 + (-6,),), True), (8, box(8) * 5, True)):
            self.assertIs(is_roomy(width, walls), roomy, walls)
            if not roomy:
                self.assertRaises(NotRoomy, plain_borders, width, walls)

    def test_plain_by_hand(self):
        for width, walls, plain in (
                (2, (), ()), (2, ((0, 0),), ()), (2, ((0, 5),), ()), (2, ((0, 1), (3, 0), (6, 0)), ((1, 0),)),
                (2, ((2, 4), (1, 3), (1, 2)), ((1, 2),)), (2, ((-4, 6), (3, 6), (-1, 2)), ((-2, 3), (1, 2))),
                (3, ((1, 0, 0), (0, 1, 0), (1, 1, 0), (1, 1, 1)), ((0, 1, 0), (1, 0, 0))),
                (3, box(3) + ((1, 1, 2), (-1, -1, 2), (1, -1, 1)),
                 ((-1, 0, 1), (0, -1, 1), (0, 1, 1), (1, -1, 1), (1, 0, 1))),
                (3, ((-1, 0, 1), (1, 1, 1), (0, 1, 2)), ((-1, 0, 1), (1, 1, 1))),
                (2, ((FAR, 1), (FAR, 0)), ((1, 0),)), (2, ((-FAR, 1), (-FAR, 2), (FAR, 0)), ((-FAR, 1), (1, 0)))):
            self.assertEqual(plain_borders(width, walls), plain)
            self.assertEqual(self.checked(width, walls), plain)

    def test_their_order_and_repeats_change_nothing(self):
        rand = random.Random(14)
        walls = list(box(3)) + [(1, 1, 1), (-1, -1, 1), (2, 2, 3), (0, 0, 0), (-3, 0, 3)]
        plain = self.checked(3, tuple(walls))
        self.assertEqual(plain, ((-1, -1, 1), (-1, 0, 1), (0, -1, 1), (0, 1, 1), (1, 0, 1), (1, 1, 1)))
        for _ in range(20):
            rand.shuffle(walls)
            times = [rand.randint(1, 9) for _ in walls]
            many = [tuple(x * by for x in w) for w, by in zip(walls, times)]
            self.assertEqual(plain_borders(3, tuple(many + walls)), plain)

    def test_all_shapes(self):
        rand = random.Random(15)
        found = [0, 0]
        for _ in range(400):
            width, walls, stricts, _ = question(rand)
            walls = (walls + stricts)[:12]
            roomy = is_roomy(width, walls)
            found[roomy] += 1
            # Roomy is: a point keeps all walls but those of zeros strictly. That is a question of [1.3].
            self.assertIs(roomy, judge_empty(width, (), tuple(w for w in walls if any(w)))[0] == "point")
            if roomy:
                self.checked(width, walls)
            else:
                self.assertRaises(NotRoomy, plain_borders, width, walls)
        self.assertGreater(min(found), 40)

    def test_no_point_keeps_the_plain_walls_alone(self):
        rand = random.Random(16)
        for _ in range(100):
            walls = tuple(row(rand, 3, 3) for _ in range(rand.randint(0, 6)))
            if is_roomy(3, walls):
                plain = plain_borders(3, walls)
                for point in itertools.product(range(-6, 7), range(-6, 7), range(1, 4)):
                    self.assertEqual(is_room_point(3, walls, (), point), is_room_point(3, plain, (), point))

    def test_forty_walls_of_the_greatest_width(self):
        rand = random.Random(17)
        for far in (1, 2, FAR):
            point = (*row(rand, 7, 3), 2)
            walls = [row(rand, 8, far) for _ in range(60)]
            walls = [w if total(w, point) >= 0 else tuple(-x for x in w) for w in walls]
            walls = tuple(w for w in walls if total(w, point))[:40]
            self.assertIs(is_roomy(8, walls), True)
            self.checked(8, walls)
        self.assertEqual(plain_borders(8, box(8) * 5), tuple(sorted(box(8))))


if __name__ == "__main__":
    unittest.main()
