"""Walls and points: what follows, empty rooms, plain walls, and the papers for all of these (part 1)."""

from tripmeans.errors import BadNumber, BadWall, BadWalls, NotRoomy
from tripmeans.integers import are_integers, are_weights, divided, is_between, value_at
from tripmeans.signs import judge_signs

MOST_BORDERS = 80


def is_border(width, thing):
    """Whether any value is a wall of the width."""
    demand_width(width)
    return are_integers(thing, width)


def are_borders(width, thing):
    """Whether any value is walls of the width."""
    demand_width(width)
    if not isinstance(thing, tuple) or len(thing) > MOST_BORDERS:
        return False
    return all([are_integers(item, width) for item in thing])


def demand_width(width):
    """Raises BadNumber for any value that is no width."""
    if not is_between(width, 2, 8):
        raise BadNumber(width)


def demand_rooms(width, *rooms):
    """Raises BadNumber or BadWalls for the first of the values that is not as it should be."""
    demand_width(width)
    for walls in rooms:
        if not are_borders(width, walls):
            raise BadWalls(walls)


def demand_question(width, walls, stricts, wall):
    """Raises the error of the first of the four values that is not as it should be."""
    demand_rooms(width, walls, stricts)
    if not is_border(width, wall):
        raise BadWall(wall)


def bound_border(width):
    """The wall that all points keep strictly: the bound is at least 1."""
    return (0,) * (width - 1) + (1,)


def judge_follows(width, walls, stricts, wall):
    """A paper that a wall follows, or a point at which it does not."""
    demand_question(width, walls, stricts, wall)
    return found_follows(width, walls, stricts, wall)


def found_follows(width, walls, stricts, wall):
    """The same for what is known to be as it should be, however many walls and stricts there are."""
    against = tuple([-x for x in wall])
    found = judge_signs(width, walls, (*stricts, bound_border(width), against))
    if found[0] == "point":
        return found
    *ss, b, m = found[2]
    return ("weights", m, found[1], tuple(ss), b)


def follows_holds(width, walls, stricts, wall, thing):
    """Whether any value is a right paper that a wall follows, or that it does not."""
    demand_question(width, walls, stricts, wall)
    if is_told_point(width, walls, stricts, thing):
        return value_at(wall, thing[1]) < 0
    if not isinstance(thing, tuple) or len(thing) != 5 or thing[0] != "weights":
        return False
    return is_follow_paper(width, walls, stricts, wall, thing[1:])


def is_follow_paper(width, walls, stricts, wall, thing):
    """Whether any value is the items (m, ws, ss, b) of a right paper that a wall follows."""
    if not isinstance(thing, tuple) or len(thing) != 4:
        return False
    m, ws, ss, b = thing
    if not are_weights((m, b), 2) or not are_right_weights(walls, stricts, ws, ss, m + b):
        return False
    return weighted_sum(width, walls, stricts, ws, ss, b) == [m * x for x in wall]


def does_follow(width, walls, stricts, wall):
    """Whether a wall follows from walls and stricts."""
    return judge_follows(width, walls, stricts, wall)[0] == "weights"


def judge_empty(width, walls, stricts):
    """A paper that a room is empty, or a point of it."""
    demand_rooms(width, walls, stricts)
    found = judge_signs(width, walls, (*stricts, bound_border(width)))
    if found[0] == "point":
        return found
    *ss, b = found[2]
    return ("none", found[1], tuple(ss), b)


def empty_holds(width, walls, stricts, thing):
    """Whether any value is a right paper that a room is empty, or that it is not."""
    demand_rooms(width, walls, stricts)
    if is_told_point(width, walls, stricts, thing):
        return True
    if not isinstance(thing, tuple) or len(thing) != 4 or thing[0] != "none":
        return False
    ws, ss, b = thing[1:]
    if not are_weights((b,), 1) or not are_right_weights(walls, stricts, ws, ss, b):
        return False
    return weighted_sum(width, walls, stricts, ws, ss, b) == [0] * width


def is_told_point(width, walls, stricts, thing):
    """Whether any value is a paper "point" with a point of the room."""
    if not isinstance(thing, tuple) or len(thing) != 2 or thing[0] != "point":
        return False
    return are_integers(thing[1], width) and is_in_room(walls, stricts, thing[1])


def is_in_room(walls, stricts, point):
    """Whether a row of integers is a point, keeps all walls, and all stricts strictly."""
    if point[-1] < 1:
        return False
    if any([value_at(wall, point) < 0 for wall in walls]):
        return False
    return all([value_at(wall, point) > 0 for wall in stricts])


def are_right_weights(walls, stricts, ws, ss, more):
    """Whether two values are weights of the walls and the stricts; those of the latter and more not all 0."""
    return are_weights(ws, len(walls)) and are_weights(ss, len(stricts)) and sum(ss) + more >= 1


def weighted_sum(width, walls, stricts, ws, ss, b):
    """The sum of the walls times ws, the stricts times ss, and the wall of the bound times b."""
    rows = [*walls, *stricts, bound_border(width)]
    weights = [*ws, *ss, b]
    return [sum([row[k] * weight for row, weight in zip(rows, weights)]) for k in range(width)]


def is_roomy(width, walls):
    """Whether some point keeps all walls but those of zeros strictly."""
    demand_rooms(width, walls)
    stricts = [wall for wall in walls if any(wall)]
    return judge_signs(width, (), (*stricts, bound_border(width)))[0] == "point"


def plain_borders(width, walls):
    """The plain walls of roomy walls."""
    if not is_roomy(width, walls):
        raise NotRoomy()
    left = sorted(set([tuple(divided(wall)) for wall in walls if any(wall)]))
    # In roomy walls those that can be left out can be so in any order: the others are the faces of the room.
    for wall in list(left):
        others = [other for other in left if other != wall]
        if does_follow(width, tuple(others), (), wall):
            left = others
    return tuple(left)
