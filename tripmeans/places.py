"""Places in bodies: numbers of statements, the blocks they stand in, and names that stand there (parts 2, 6, 9).

A block is told by the trail that leads to it from the body: pairs (position of an "if", 3 or 4 for its arms).
"""

from tripmeans.programs import count_items, names_right


def numbered(block, first):
    """The pairs (number, statement) of the statements in a block itself, numbered from the number first on."""
    pairs = []
    number = first
    for item in block:
        pairs.append((number, item))
        number += count_items((item,))
    return pairs


def arm_starts(number, statement):
    """The numbers with which the two arms of an "if" with this number begin."""
    return number + 1, number + 1 + count_items(statement[3])


def trail_to(body, number):
    """The trail to the block of the statement with a number, and its position there."""
    trail = []
    block, first = body, 0
    while True:
        starts = [start for start, _ in numbered(block, first) if start <= number]
        at = len(starts) - 1
        if starts[at] == number:
            return tuple(trail), at
        near, far = arm_starts(starts[at], block[at])
        arm, first = (3, near) if number < far else (4, far)
        trail.append((at, arm))
        block = block[at][arm]


def block_at(body, trail):
    """The block to which a trail leads."""
    block = body
    for at, arm in trail:
        block = block[at][arm]
    return block


def with_block(body, trail, block):
    """The body with another block in the place to which a trail leads."""
    if not trail:
        return block
    at, arm = trail[0]
    arms = list(body[at])
    arms[arm] = with_block(arms[arm], trail[1:], block)
    return (*body[:at], tuple(arms), *body[at + 1:])


class Place:
    """A statement of a program by its number: the block it stands in, its position there, and the trail to it."""

    def __init__(self, program, number):
        self.whole = program
        self.number = number
        self.trail, self.at = trail_to(program[2], number)
        self.block = block_at(program[2], self.trail)
        self.item = self.block[self.at]

    def with_rest(self, rest):
        """The program with other statements in the place of this one and all behind it in its block."""
        block = (*self.block[:self.at], *rest)
        return with_body(self.whole, with_block(self.whole[2], self.trail, block))

    def with_instead(self, many, statements):
        """The program with other statements in the place of so many, this one and those that follow it."""
        return self.with_rest((*statements, *self.block[self.at + many:]))


def with_body(program, body):
    """A program with another body."""
    return (*program[:2], body, program[3])


def names_read(statement):
    """The names on the right of a statement that gives a name, or those that an "if" compares."""
    return statement[1:3] if statement[0] == "if" else names_right(statement)


def names_standing(statement):
    """The names that stand in a statement itself, also the one that it gives; not those in arms."""
    return statement[1:3] if statement[0] == "if" else (statement[1], *names_right(statement))


def reading(statement, names):
    """A statement, and all in its arms, that reads other names, by this dict; those that it gives stay."""
    if statement[0] == "if":
        small, large, then, other = statement[1:]
        arms = [tuple([reading(item, names) for item in arm]) for arm in (then, other)]
        return ("if", names.get(small, small), names.get(large, large), *arms)
    word, name, kind, one, other = statement
    if word != "times":
        one = names.get(one, one)
    return (word, name, kind, one, names.get(other, other))
