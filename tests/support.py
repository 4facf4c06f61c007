"""What the tests share: any values, papers checked by the document's own words, and programs made at will."""

import random

from tripmeans.bench import Bench
from tripmeans.errors import TripError

# Benches are any values, too, by themselves and within others.
BENCH = Bench.read("bench\nprogram p\nin a both 1\nout a\nstraight p")

# One value of each sort that the document calls "any value", and some that are nearly something.
ANY_VALUES = (
    None, True, False, 0, 1, -1, 2, 8, 9, 10 ** 99, -10 ** 99, "", "a", "in", "point", "weights", " ~\n", "x" * 1000,
    (), ((),), (None,), (True, 1), (1, True), (1, 2), ("both", 1), ("a", ("both", 1)), ("point",), ("point", ()),
    ("weights", 1, (), (), 1), ("none", (), (), 1), ("if", "a", "b", (), ()), ((((((((((),),),),),),),),),),
    [], [1, 2], [(1, 2)], ["both", 1], {}, {"a": 1}, {1: (2, 3)}, ([],), ({},), ([1], {2: 3}, "a", None), (0,) * 3000,
    BENCH, Bench(), (BENCH,), [BENCH], {"p": BENCH}, (BENCH, 1), ("both", BENCH), (BENCH, ()), ("point", BENCH),
    (BENCH, BENCH, BENCH), (BENCH, (), (), ("a",)), ("trips", 1, (BENCH,)), (("a", BENCH),), ([BENCH], {}, ({},), []),
)


def caught(error, call, *given):
    """The one value that the error of a call carries; None if it carries none."""
    try:
        call(*given)
    except TripError as e:
        assert type(e) is error, e
        return next(iter(vars(e).values()), None)
    raise AssertionError(f"no {error.__name__}")


def total(row, point):
    """The sum of the products of two rows."""
    assert len(row) == len(point)
    return sum(x * y for x, y in zip(row, point))


def is_whole(x):
    return type(x) is int


def are_weights(thing, many):
    return type(thing) is tuple and len(thing) == many and all(is_whole(x) and x >= 0 for x in thing)


def is_room_point(width, walls, stricts, thing):
    """A point of the room, by the words of [1.1]."""
    if type(thing) is not tuple or len(thing) != width or not all(is_whole(x) for x in thing) or thing[-1] < 1:
        return False
    return all(total(w, thing) >= 0 for w in walls) and all(total(s, thing) > 0 for s in stricts)


def summed(width, walls, stricts, ws, ss, b):
    found = [0] * (width - 1) + [b]
    for wall, weight in list(zip(walls, ws)) + list(zip(stricts, ss)):
        for k in range(width):
            found[k] += wall[k] * weight
    return found


def is_follows_paper(width, walls, stricts, wall, thing):
    """A paper of [1.2], by its words."""
    if type(thing) is not tuple or not thing or type(thing[0]) is not str:
        return False
    if thing[0] == "point":
        return len(thing) == 2 and is_room_point(width, walls, stricts, thing[1]) and total(wall, thing[1]) < 0
    if thing[0] != "weights" or len(thing) != 5:
        return False
    _, m, ws, ss, b = thing
    if not are_weights((m, b), 2) or not are_weights(ws, len(walls)) or not are_weights(ss, len(stricts)):
        return False
    return m + b + sum(ss) >= 1 and summed(width, walls, stricts, ws, ss, b) == [m * x for x in wall]


def is_empty_paper(width, walls, stricts, thing):
    """A paper of [1.3], by its words."""
    if type(thing) is not tuple or not thing or type(thing[0]) is not str:
        return False
    if thing[0] == "point":
        return len(thing) == 2 and is_room_point(width, walls, stricts, thing[1])
    if thing[0] != "none" or len(thing) != 4:
        return False
    _, ws, ss, b = thing
    if not are_weights((b,), 1) or not are_weights(ws, len(walls)) or not are_weights(ss, len(stricts)):
        return False
    return b + sum(ss) >= 1 and summed(width, walls, stricts, ws, ss, b) == [0] * width


def most_digits(thing):
    """The number of digits of the longest integer in a paper."""
    if isinstance(thing, tuple):
        return max((most_digits(item) for item in thing), default=0)
    return len(str(abs(thing))) if is_whole(thing) else 0


def changed_once(thing):
    """Values that differ from a value in one place."""
    if isinstance(thing, tuple):
        yield list(thing)
        yield thing + (0,)
        yield thing + thing[-1:]
        for k, item in enumerate(thing):
            yield thing[:k] + thing[k + 1:]
            if k:
                yield thing[:k - 1] + (item, thing[k - 1]) + thing[k + 1:]
            for other in changed_once(item):
                yield thing[:k] + (other,) + thing[k + 1:]
    elif is_whole(thing):
        yield from (thing + 1, thing - 1, -thing, 2 * thing, thing == 1, str(thing), None, [thing], (thing,), BENCH)
    else:
        yield from (None, "", "point", "weights", "none", ["point"], ("point",), 0, {}, BENCH)


def row(rand, width, far):
    return tuple(rand.randint(-far, far) for _ in range(width))


def box(width, k=1):
    """The walls of kinds ("both", k): two for each input."""
    found = []
    for at in range(width - 1):
        form = [0] * (width - 1)
        for sign in (-1, 1):
            form[at] = sign
            found.append((*form, k))
    return tuple(found)


def question(rand):
    """Walls and stricts of some width and a wall, of the many shapes in which walls can stand together."""
    width = rand.randint(2, 8)
    far = rand.choice((1, 1, 2, 5, 1000, 10 ** 6))
    many = rand.choice((0, 1, 2, 3, 5, 8, 12, 20))
    shape = rand.randrange(7)
    walls = [row(rand, width, far) for _ in range(many)]
    if shape in (1, 2, 3):
        # All walls are kept by one point; in the second shape all of them meet in it.
        point = (*row(rand, width - 1, 2), 1)
        walls = [w if total(w, point) >= 0 else tuple(-x for x in w) for w in walls]
    if shape == 2:
        walls = [(*w[:-1], w[-1] - total(w, point)) for w in walls]
    if shape == 4:
        walls = list(box(width, rand.randint(1, 3))) + walls[:3]
    if shape == 5:
        walls += [tuple(-x for x in w) for w in walls[:3]] + [tuple(2 * x for x in w) for w in walls[:3]] + walls[:2]
    if shape == 6:
        walls = [(*w[:-1], 0) for w in walls] + [(0,) * width] + walls[:1]
    rand.shuffle(walls)
    cut = rand.choice((len(walls), len(walls), rand.randint(0, len(walls))))
    wall = row(rand, width, far)
    if walls and rand.randrange(3) == 0:
        wall = tuple(sum(xs) for xs in zip(*rand.sample(walls, min(len(walls), rand.randint(1, 3)))))
    return width, tuple(walls[:cut]), tuple(walls[cut:]), wall


class Maker:
    """Makes programs at will, right by their making, with kinds, factors and numbers up to those that are told."""

    def __init__(self, seed, wide=30, far=12, ins=6, most=24):
        self.rand = random.Random(seed)
        self.wide, self.far, self.ins, self.most = wide, far, ins, most
        self.left = 0
        self.many = 0

    def kind(self):
        return (self.rand.choice(("both", "up")), self.rand.randint(1, self.wide))

    def name(self, known):
        while True:
            name = "".join(self.rand.choice("abxyz") for _ in range(self.rand.randint(1, 3)))
            if name not in known:
                return name

    def program(self):
        ins = {}
        for _ in range(self.rand.randint(1, self.ins)):
            ins[self.name(ins)] = self.kind()
        pairs = [(a, b) for a in ins for b in ins if a != b]
        facts = tuple(sorted(self.rand.sample(pairs, min(len(pairs), self.rand.randint(0, 6)))))
        self.left = self.rand.randint(0, self.most)
        body, known = self.block(dict(ins), {}, self.most)
        outs = tuple(self.rand.choice(sorted(known)) for _ in range(self.rand.randint(1, 4)))
        return (tuple(ins.items()), facts, body, outs)

    def block(self, known, asked, most):
        found = []
        while self.left and len(found) < most and self.rand.randrange(12):
            self.left -= 1
            if self.rand.randrange(4) == 0:
                item, more = self.choice(known)
                known.update(more)
            else:
                item = self.giving(known, asked)
                known[item[1]] = item[2]
            found.append(item)
        return tuple(found), known

    def choice(self, known):
        small, large = self.rand.choice(sorted(known)), self.rand.choice(sorted(known))
        then, _ = self.block(dict(known), {}, 4)
        given = {item[1]: item[2] for item in then if item[0] != "if"}
        other, _ = self.block(dict(known), given, 4)
        also = {item[1] for item in other if item[0] != "if"}
        return ("if", small, large, then, other), {name: given[name] for name in given if name in also}

    def giving(self, known, asked):
        wanted = [name for name in sorted(asked) if name not in known]
        name = self.rand.choice(wanted) if wanted and self.rand.randrange(3) else self.name(known)
        kind = asked.get(name) or self.kind()
        word = self.rand.choice(("plus", "minus", "times", "least", "greatest"))
        one, other = self.rand.choice(sorted(known)), self.rand.choice(sorted(known))
        if word == "times":
            one = self.rand.randint(-self.far, self.far)
        return (word, name, kind, one, other)
