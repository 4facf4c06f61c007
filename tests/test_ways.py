"""Part 3: ways, their order, the one that is taken, and their rooms."""

import itertools
import random
import unittest

from support import ANY_VALUES, Maker, caught, is_empty_paper
from tripmeans import ways as module
from tripmeans.errors import BadBound, BadGiven, BadNumber, BadProgram, TooMany
from tripmeans.runs import run, trace
from tripmeans.walls import judge_empty
from tripmeans.ways import bare_borders, room_borders, way_taken, ways_of
from words import all_given, is_in, room, total, walked, ways

K, U = ("both", 1), ("up", 1)
K2, U2 = ("both", 2), ("up", 2)
INS = (("a", K), ("b", U))
TOP = (INS, (), (("greatest", "c", K, "a", "b"), ("minus", "d", U2, "c", "a")), ("d",))
LOW = (INS, (("b", "a"),), (("least", "c", K, "a", "b"), ("times", "d", U2, -3, "c")), ("c", "d", "c"))
FORK = (INS, (), (("if", "a", "b", (("plus", "c", K2, "a", "b"),), (("minus", "c", K2, "a", "b"),)),), ("c",))
# Each has one way fewer, as many, or one more than there may be.
MANY = {
    31: (("if", "a", "b", tuple(("least", n, K, "a", "b") for n in "cdef"), (
        ("if", "a", "b", tuple(("least", n, K, "a", "b") for n in "cde"),
         (("if", "a", "b", (("least", "c", K, "a", "b"), ("greatest", "d", K, "a", "b")), (
             ("if", "a", "b", (("least", "c", K, "a", "b"),), ()),)),)),)),),
    32: tuple(("least", n, K, "a", "b") for n in "cdefg"),
    33: (("if", "a", "b", tuple(("greatest", n, K, "a", "b") for n in "cdefg"), ()),),
}


def chooser(body):
    return (INS, (), body, ("a",))


def in_room(walls, stricts, point):
    return is_in(walls, stricts, point) and point[-1] >= 1


class ByHand(unittest.TestCase):
    def test_the_documents_examples(self):
        self.assertEqual(ways_of(TOP)[0], ((("meets", (1, -1, 0), False), ("value", 0, (1, 0), K),
                                            ("value", 1, (0, 0), U2)), ((0, 0),)))
        self.assertEqual(ways_of(TOP)[1][1], ((-1, 1),))
        self.assertEqual([way_taken(TOP, 5, (-5, 0)), way_taken(TOP, 5, (3, 3))], [1, 0])
        self.assertEqual(bare_borders(TOP, 1), (((-1, 0, 1), (1, 0, 1), (0, -1, 1), (0, 1, 0)), ((-1, 1, 0),)))
        self.assertEqual(len(room_borders(TOP, 0)[0]), 9)

    def test_greatest(self):
        self.assertEqual(ways_of(TOP)[1], ((("meets", (-1, 1, 0), True), ("value", 0, (0, 1), K),
                                            ("value", 1, (-1, 1), U2)), ((-1, 1),)))
        self.assertEqual(len(ways_of(TOP)), 2)
        walls = ((-1, 0, 1), (1, 0, 1), (0, -1, 1), (0, 1, 0))
        self.assertEqual(room_borders(TOP, 0), ((*walls, (1, -1, 0), (-1, 0, 1), (1, 0, 1), (0, 0, 2), (0, 0, 0)), ()))
        self.assertEqual(room_borders(TOP, 1), ((*walls, (0, -1, 1), (0, 1, 1), (1, -1, 2), (-1, 1, 0)),
                                                ((-1, 1, 0),)))
        self.assertEqual(bare_borders(TOP, 0), ((*walls, (1, -1, 0)), ()))

    def test_least(self):
        self.assertEqual(ways_of(LOW), (
            ((("meets", (-1, 1, 0), False), ("value", 0, (1, 0), K), ("value", 1, (-3, 0), U2)),
             ((1, 0), (-3, 0), (1, 0))),
            ((("meets", (1, -1, 0), True), ("value", 0, (0, 1), K), ("value", 1, (0, -3), U2)),
             ((0, 1), (0, -3), (0, 1)))))
        walls = ((-1, 0, 1), (1, 0, 1), (0, -1, 1), (0, 1, 0), (1, -1, 0))
        self.assertEqual(room_borders(LOW, 0), ((*walls, (-1, 1, 0), (-1, 0, 1), (1, 0, 1), (3, 0, 2), (-3, 0, 0)), ()))
        self.assertEqual(room_borders(LOW, 1), ((*walls, (0, -1, 1), (0, 1, 1), (0, 3, 2), (0, -3, 0)),
                                                ((1, -1, 0),)))
        self.assertEqual([way_taken(LOW, 5, (x, x)) for x in (0, 5)], [0, 0])
        self.assertEqual(way_taken(LOW, 5, (2, 1)), 1)

    def test_if(self):
        self.assertEqual(ways_of(FORK), (
            ((("meets", (-1, 1, 0), False), ("value", 1, (1, 1), K2)), ((1, 1),)),
            ((("meets", (1, -1, 0), True), ("value", 2, (1, -1), K2)), ((1, -1),))))
        self.assertEqual([way_taken(FORK, 5, (x, 2)) for x in (1, 2, 3)], [0, 0, 1])

    def test_straight_programs_have_one_way(self):
        for many in range(4):
            body = (("plus", "c", K, "a", "b"), ("minus", "d", K, "c", "b"), ("times", "e", K, -12, "d"))[:many]
            entries = (("value", 0, (1, 1), K), ("value", 1, (1, 0), K), ("value", 2, (-12, 0), K))[:many]
            program = (INS, (), body, ("a", "b", "a"))
            self.assertEqual(ways_of(program), ((entries, ((1, 0), (0, 1), (1, 0))),))
            self.assertEqual(way_taken(program, 1, (0, 0)), 0)

    def test_empty_arms_and_statements_without_effect(self):
        program = (INS, (), (("if", "b", "a", (), (("plus", "c", K, "a", "a"),)), ("if", "a", "b", (), ())), ("a",))
        near, far = ("meets", (1, -1, 0), False), ("meets", (-1, 1, 0), True)
        then, other = ("meets", (-1, 1, 0), False), ("meets", (1, -1, 0), True)
        value = ("value", 1, (2, 0), K)
        self.assertEqual(ways_of(program), tuple((entries, ((1, 0),)) for entries in (
            (near, then), (near, other), (far, value, then), (far, value, other))))
        self.assertEqual([way_taken(program, 9, given) for given in ((2, 2), (3, 2), (1, 2))], [0, 1, 2])

    def test_choices_within_choices(self):
        inner = ("if", "a", "c", (("times", "d", K, 2, "a"),), (("least", "d", K, "a", "c"),))
        body = (("if", "a", "b", (("greatest", "c", K, "a", "b"), inner, ("plus", "e", K, "c", "d")),
                 (("times", "e", K, 3, "b"),)), ("minus", "f", K, "e", "a"))
        rows = [[entry[2] for entry in entries if entry[0] == "meets"] for entries, _ in ways_of(chooser(body))]
        self.assertEqual(rows, [[False, False, False], [False, False, True, False], [False, False, True, True],
                                [False, True, False], [False, True, True, False], [False, True, True, True], [True]])
        numbers = [[entry[1] for entry in entries if entry[0] == "value"] for entries, _ in ways_of(chooser(body))]
        self.assertEqual(numbers, [[1, 3, 5, 7], [1, 4, 5, 7], [1, 4, 5, 7]] * 2 + [[6, 7]])
        self.assertEqual(ways_of(chooser(body))[4][0], (
            ("meets", (-1, 1, 0), False), ("meets", (-1, 1, 0), True), ("value", 1, (0, 1), K),
            ("meets", (1, -1, 0), True), ("meets", (-1, 1, 0), False), ("value", 4, (1, 0), K),
            ("value", 5, (1, 1), K), ("value", 7, (0, 1), K)))

    def test_names_that_are_joined_or_given_anew(self):
        body = (("if", "a", "b", (("plus", "c", K, "a", "b"), ("plus", "d", K, "a", "a")),
                 (("minus", "c", K, "a", "b"),)),
                ("plus", "d", U, "c", "b"), ("times", "e", K, 2, "d"))
        program = (INS, (), body, ("e", "d", "c"))
        self.assertEqual([outs for _, outs in ways_of(program)], [((2, 4), (1, 2), (1, 1)), ((2, 0), (1, 0), (1, -1))])

    def test_one_name_against_itself(self):
        for body in ((("least", "c", K, "a", "a"),), (("greatest", "c", K, "a", "a"),), (("if", "a", "a", (), ()),)):
            found = ways_of(chooser(body))
            self.assertEqual([way[0][0] for way in found], [("meets", (0, 0, 0), False), ("meets", (0, 0, 0), True)])
            self.assertEqual([way_taken(chooser(body), 5, given) for given in ((5, 5), (0, 0), (-5, 1))], [0, 0, 0])
            self.assertEqual(judge_empty(3, *bare_borders(chooser(body), 1))[0], "none")
            self.assertEqual(judge_empty(3, *bare_borders(chooser(body), 0))[0], "point")

    def test_rooms_that_are_only_a_point(self):
        body = (("times", "c", U, -1, "b"), ("least", "d", K, "a", "b"))
        program = ((("a", U), ("b", U)), (("a", "b"),), body, ("d",))
        walls, stricts = room_borders(program, 0)
        self.assertEqual([p for p in itertools.product(range(-3, 4), repeat=2) if in_room(walls, stricts, (*p, 3))],
                         [(0, 0)])
        self.assertEqual(judge_empty(3, *room_borders(program, 1))[0], "none")

    def test_large_bounds(self):
        far = 10 ** 60 - 1
        self.assertEqual([way_taken(TOP, far, (x, far)) for x in (far - 1, far, -far)], [1, 0, 1])


class TooManyWays(unittest.TestCase):
    def test_to_thirty_two(self):
        for many in (31, 32):
            program = chooser(MANY[many])
            self.assertEqual(ways_of(program), ways(program))
            self.assertEqual(len(ways_of(program)), many)
            self.assertEqual(room_borders(program, many - 1), room(program, ways(program)[-1]))
            for given in all_given(program, 2):
                self.assertEqual(way_taken(program, 2, given), taken(program, 2, given)[0])

    def test_beyond(self):
        wrong = [MANY[33], tuple(("least", n, K, "a", "b") for n in "cdefgh"),
                 (("if", "a", "b", MANY[32], (("least", "c", K, "a", "b"),)),),
                 tuple(("if", "a", "b", (), ()) for _ in range(6)),
                 tuple(("greatest", "x" + chr(97 + k), K, "a", "b") for k in range(24))]
        for body in wrong:
            program = chooser(body)
            self.assertEqual(caught(TooMany, ways_of, program), 32)
            self.assertEqual(caught(TooMany, way_taken, program, 2, (0, 0)), 32)
            for number in (0, -1, None, 33):
                self.assertEqual(caught(TooMany, room_borders, program, number), 32)
                self.assertEqual(caught(TooMany, bare_borders, program, number), 32)
            # Runs have no such limit.
            self.assertEqual(run(program, 2, (1, 1))[0], "ends")

    def test_behind_the_errors_of_runs(self):
        program = chooser(MANY[33])
        self.assertEqual(caught(BadBound, way_taken, program, 0, None), 0)
        self.assertIsNone(caught(BadGiven, way_taken, program, 2, None))
        self.assertEqual(caught(BadGiven, way_taken, program, 2, (0, 3)), (0, 3))


class WrongInputs(unittest.TestCase):
    def test_programs(self):
        for x in (*ANY_VALUES, list(TOP), TOP[:3], (INS, (), TOP[2], ("x",))):
            self.assertIs(caught(BadProgram, ways_of, x), x)
            self.assertIs(caught(BadProgram, way_taken, x, None, None), x)
            self.assertIs(caught(BadProgram, room_borders, x, None), x)
            self.assertIs(caught(BadProgram, bare_borders, x, None), x)

    def test_numbers(self):
        for call in (room_borders, bare_borders):
            for x in (*ANY_VALUES, -2, "0", (0,), [0]):
                if type(x) is not int or x not in (0, 1):
                    self.assertIs(caught(BadNumber, call, TOP, x), x)
            straight = (INS, (), (), ("a",))
            self.assertEqual(call(straight, 0), (((-1, 0, 1), (1, 0, 1), (0, -1, 1), (0, 1, 0)), ()))
            self.assertEqual(caught(BadNumber, call, straight, 1), 1)
            self.assertEqual(caught(BadNumber, call, straight, -1), -1)

    def test_bounds_and_given_integers(self):
        for x in ANY_VALUES:
            if type(x) is not int or x < 1:
                self.assertIs(caught(BadBound, way_taken, TOP, x, x), x)
            if x != (1, 2):
                self.assertIs(caught(BadGiven, way_taken, TOP, 5, x), x)
        for given in ((6, 0), (-6, 0), (0, -1), (0, 6), (0,), (0, 0, 0), [0, 0], (True, 0)):
            self.assertIs(caught(BadGiven, way_taken, TOP, 5, given), given)
        self.assertEqual(caught(BadGiven, way_taken, LOW, 5, (1, 2)), (1, 2))

    def test_functions_are_defined_there(self):
        for name in ("ways_of", "way_taken", "room_borders", "bare_borders"):
            self.assertEqual(getattr(module, name).__module__, "tripmeans.ways")


def taken(program, bound, given):
    """The positions of the ways all of whose entries "meets" are kept: just one."""
    point = (*given, bound)
    found = []
    for position, (entries, _) in enumerate(ways(program)):
        sums = [(total(entry[1], point), entry[2]) for entry in entries if entry[0] == "meets"]
        if all(x > 0 or (x == 0 and not strict) for x, strict in sums):
            found.append(position)
    return found


def small(seed):
    """A program of few inputs with some ways, but not too many; None if it has too many."""
    program = Maker(seed, wide=2, far=3, ins=2, most=8).program()
    return program if len(ways(program, 32)) <= 32 else None


class ManyPrograms(unittest.TestCase):
    def test_all_ways(self):
        most = []
        for seed in range(500):
            program = Maker(seed).program()
            found = ways(program, 32)
            if len(found) > 32:
                self.assertEqual(caught(TooMany, ways_of, program), 32)
                continue
            self.assertEqual(ways_of(program), found)
            most.append(len(found))
            for number in range(len(found)):
                self.assertEqual(room_borders(program, number), room(program, found[number]))
                self.assertEqual(bare_borders(program, number), room(program, found[number], bare=True))
        self.assertGreater(len([n for n in most if n > 8]), 30)

    def test_the_way_that_is_taken_is_what_the_run_does(self):
        trips = 0
        for seed in range(200):
            program = small(seed)
            if program is None:
                continue
            found = ways_of(program)
            for bound in (1, 2):
                for given in all_given(program, bound):
                    number = way_taken(program, bound, given)
                    self.assertEqual([number], taken(program, bound, given))
                    entries, outs = found[number]
                    pairs = tuple((e[1], total(e[2], given)) for e in entries if e[0] == "value")
                    walk = trace(program, bound, given)
                    self.assertEqual(pairs[:len(walk)], walk)
                    ended = run(program, bound, given)
                    trips += ended[0] == "trips"
                    if ended[0] == "ends":
                        self.assertEqual((len(walk), ended[1]), (len(pairs), tuple(total(f, given) for f in outs)))
        self.assertGreater(trips, 500)

    def test_rooms_are_where_runs_go_a_way_to_the_end(self):
        rand = random.Random(71)
        for seed in range(60):
            program = small(seed)
            if program is None:
                continue
            count = len(ways_of(program))
            rooms = [(room_borders(program, k), bare_borders(program, k)) for k in range(count)]
            for bound in (1, 3):
                given = all_given(program, bound)
                beyond = [tuple(rand.randint(-3 * bound, 3 * bound) for _ in program[0]) for _ in range(20)]
                for inputs in given + [point for point in beyond if point not in given]:
                    point = (*inputs, bound)
                    number = way_taken(program, bound, inputs) if inputs in given else -1
                    ends = inputs in given and walked(program, bound, inputs)[1][0] == "ends"
                    for k, (whole, bare) in enumerate(rooms):
                        self.assertEqual(in_room(*bare, point), k == number)
                        self.assertEqual(in_room(*whole, point), k == number and ends)

    def test_empty_ways_are_taken_nowhere(self):
        empty = 0
        for seed in range(120):
            program = small(seed)
            if program is None:
                continue
            met = {way_taken(program, bound, given) for bound in (1, 2, 3) for given in all_given(program, bound)}
            for k in range(len(ways_of(program))):
                asked = (len(program[0]) + 1, *bare_borders(program, k))
                paper = judge_empty(*asked)
                self.assertTrue(is_empty_paper(*asked, paper))
                if paper[0] == "none":
                    self.assertNotIn(k, met)
                    empty += 1
                else:
                    *inputs, bound = paper[1]
                    self.assertEqual(way_taken(program, bound, tuple(inputs)), k)
        self.assertGreater(empty, 20)


if __name__ == "__main__":
    unittest.main()
