"""[1.1]: what walls are, and who is looked at first of the values that are none."""

import unittest

from support import ANY_VALUES, caught
from tripmeans import walls as module
from tripmeans.errors import BadNumber, BadWall, BadWalls, NotRoomy
from tripmeans.walls import are_borders, is_border

FAR = 10 ** 6
NO_WIDTHS = [x for x in ANY_VALUES if type(x) is not int or not 2 <= x <= 8]


class Borders(unittest.TestCase):
    def test_is_border(self):
        for width in range(2, 9):
            self.assertIs(is_border(width, (0,) * width), True)
            self.assertIs(is_border(width, (-FAR, FAR) * (width // 2) + (5,) * (width % 2)), True)
            self.assertIs(is_border(width, (0,) * (width - 1)), False)
            self.assertIs(is_border(width, (0,) * (width + 1)), False)
            self.assertIs(is_border(width, [0] * width), False)
            self.assertIs(is_border(width, (True,) + (0,) * (width - 1)), False)
            self.assertIs(is_border(width, (0,) * (width - 1) + (None,)), False)

    def test_is_border_of_any_value(self):
        right = [x for x in ANY_VALUES if is_border(2, x)]
        self.assertEqual(right, [(1, 2)])

    def test_are_borders(self):
        for width in range(2, 9):
            wall = tuple(range(width))
            self.assertIs(are_borders(width, ()), True)
            self.assertIs(are_borders(width, (wall,)), True)
            self.assertIs(are_borders(width, (wall,) * 80), True)
            self.assertIs(are_borders(width, (wall,) * 81), False)
            self.assertIs(are_borders(width, [wall]), False)
            self.assertIs(are_borders(width, (wall, list(wall))), False)
            self.assertIs(are_borders(width, (wall, wall + (0,))), False)
            self.assertIs(are_borders(width, (wall, wall[1:])), False)
            self.assertIs(are_borders(width, wall), False)
            self.assertIs(are_borders(width, ((False,) * width,)), False)

    def test_are_borders_of_any_value(self):
        self.assertEqual([x for x in ANY_VALUES if are_borders(2, x)], [()])

    def test_larger_integers_are_integers(self):
        self.assertIs(is_border(2, (10 ** 99, -10 ** 99)), True)
        self.assertIs(are_borders(2, ((10 ** 99, 0),)), True)


class WhichErrorComesFirst(unittest.TestCase):
    def test_width(self):
        self.assertEqual(len(NO_WIDTHS), len(ANY_VALUES) - 2)
        calls = {
            "is_border": (0,), "are_borders": (0,), "judge_follows": (0, 0, 0), "follows_holds": (0, 0, 0, 0),
            "does_follow": (0, 0, 0), "judge_empty": (0, 0), "empty_holds": (0, 0, 0), "is_roomy": (0,),
            "plain_borders": (0,),
        }
        for name, others in calls.items():
            for width in NO_WIDTHS:
                self.assertIs(caught(BadNumber, getattr(module, name), width, *others), width, name)

    def test_walls_and_stricts(self):
        calls = {"judge_follows": 1, "follows_holds": 2, "does_follow": 1, "judge_empty": 0, "empty_holds": 1}
        for name, more in calls.items():
            call = getattr(module, name)
            for thing in ANY_VALUES:
                if thing == ():
                    continue
                self.assertIs(caught(BadWalls, call, 2, thing, 7, *(8,) * more), thing, name)
                self.assertIs(caught(BadWalls, call, 2, ((1, 2),), thing, *(8,) * more), thing, name)
        for name in ("is_roomy", "plain_borders"):
            for thing in ANY_VALUES:
                if thing != ():
                    self.assertIs(caught(BadWalls, getattr(module, name), 2, thing), thing)

    def test_walls_of_another_width_and_too_many(self):
        for thing in (((1, 2, 3),), ((1, 2), (1,)), ((1, 2),) * 81):
            self.assertEqual(caught(BadWalls, module.judge_empty, 2, thing, ()), thing)
            self.assertEqual(caught(BadWalls, module.judge_empty, 2, (), thing), thing)
            self.assertEqual(caught(BadWalls, module.plain_borders, 2, thing), thing)

    def test_wall(self):
        for name, more in {"judge_follows": 0, "follows_holds": 1, "does_follow": 0}.items():
            call = getattr(module, name)
            for thing in ANY_VALUES:
                if thing != (1, 2):
                    self.assertIs(caught(BadWall, call, 2, (), ((1, 2),), thing, *(8,) * more), thing, name)
            self.assertEqual(caught(BadWall, call, 3, (), (), (1, 2), *(8,) * more), (1, 2))

    def test_not_roomy_comes_last(self):
        self.assertRaises(NotRoomy, module.plain_borders, 2, ((1, 0), (-1, 0)))
        self.assertRaises(BadWalls, module.plain_borders, 2, ((1, 0), (-1, 0), (1, 0, 0)))


if __name__ == "__main__":
    unittest.main()
