"""Bracketed sums: trees over items, their lots, and which trees never trip more than others (part 8)."""

from itertools import combinations

from tripmeans.errors import BadItems, BadNumber, BadTree
from tripmeans.integers import are_integers, is_between
from tripmeans.papers import are_follow_papers, judge_checks
from tripmeans.programs import LETTERS
from tripmeans.runs import is_bound
from tripmeans.walls import is_in_room
from tripmeans.ways import kind_borders

LEAST_ITEMS = 2
MOST_ITEMS = 6
SUM_KIND = ("both", 1)


def demand_many(n):
    """Raises BadNumber for any value that is no number of items."""
    if not is_between(n, LEAST_ITEMS, MOST_ITEMS):
        raise BadNumber(n)


def is_tree(n, thing):
    """Whether any value is a tree of n items."""
    demand_many(n)
    leaves = []
    waiting = [thing]
    # A value with more integers and pairs than a tree can have is none, however deep it goes on.
    for _ in range(2 * n - 1):
        if not waiting:
            return False
        part = waiting.pop()
        if isinstance(part, tuple) and len(part) == 2:
            waiting.extend(part)
        elif is_between(part, 0, n - 1):
            leaves.append(part)
        else:
            return False
    return not waiting and sorted(leaves) == list(range(n))


def demand_tree(n, tree):
    """Raises BadTree for any value that is no tree of n items."""
    if not is_tree(n, tree):
        raise BadTree(tree)


def leaves_of(tree):
    """The ascending tuple of the integers in a tree, or in a part of one."""
    if isinstance(tree, tuple):
        return tuple(sorted(leaves_of(tree[0]) + leaves_of(tree[1])))
    return (tree,)


def lots_of(n, tree):
    """The lots of a tree of n items, ascending."""
    demand_tree(n, tree)
    return tuple(sorted(lots_within(tree)))


def lots_within(tree):
    """The lots of all pairs in a tree, or in a part of one."""
    if isinstance(tree, tuple):
        return [leaves_of(tree), *lots_within(tree[0]), *lots_within(tree[1])]
    return []


def plain_tree(n, tree):
    """The plain tree with the lots of a tree of n items."""
    demand_tree(n, tree)
    return made_plain(tree)


def made_plain(tree):
    """A tree, or a part of one, with the side with the least integer first in each pair."""
    if not isinstance(tree, tuple):
        return tree
    near, far = made_plain(tree[0]), made_plain(tree[1])
    return (near, far) if leaves_of(near) < leaves_of(far) else (far, near)


def all_trees(n):
    """The tuple of all plain trees of n items, in the ascending order of their lots."""
    demand_many(n)
    trees = [0]
    for item in range(1, n):
        trees = [more for tree in trees for more in trees_with(tree, item)]
    # Each tree has other lots than all others: so the trees themselves are never compared.
    pairs = sorted([(lots_of(n, tree), tree) for tree in trees])
    return tuple([pair[1] for pair in pairs])


def trees_with(tree, item):
    """All plain trees that a plain tree becomes with one more item, which is greater than all of its own."""
    found = [(tree, item)]
    if isinstance(tree, tuple):
        near, far = tree
        found.extend([(more, far) for more in trees_with(near, item)])
        found.extend([(near, more) for more in trees_with(far, item)])
    return found


def are_items(thing):
    """Whether any value is items."""
    if not isinstance(thing, tuple) or not LEAST_ITEMS <= len(thing) <= MOST_ITEMS:
        return False
    return are_integers(thing, len(thing)) and all([-1 <= item <= 1 for item in thing])


def demand_items(items, *trees):
    """Raises the error of the first value that is not as it should be: items, and trees of as many items."""
    if not are_items(items):
        raise BadItems(items)
    for tree in trees:
        demand_tree(len(items), tree)


def item_kind(item):
    """The kind of the input of an item."""
    return ("both", 1) if item == 0 else ("up", 1)


def lot_form(items, lot):
    """The form of the sum over a lot, told with the signs of the items."""
    return tuple([sign_of(item) if at in lot else 0 for at, item in enumerate(items)])


def sign_of(item):
    """The sign with which an item goes into a sum."""
    return -1 if item == -1 else 1


def input_borders(items):
    """The walls of the inputs, in order."""
    walls = []
    for at, item in enumerate(items):
        form = tuple([int(at == k) for k in range(len(items))])
        walls.extend(kind_borders(form, item_kind(item)))
    return walls


def tree_borders(items, tree):
    """The walls of the lots of a tree, ascending, two for each."""
    walls = []
    for lot in lots_of(len(items), tree):
        walls.extend(kind_borders(lot_form(items, lot), SUM_KIND))
    return walls


def more_tree_checks(items, one, other):
    """The checks that the second tree never trips more than the first one."""
    walls = (*input_borders(items), *tree_borders(items, one))
    return [(walls, (), wall) for wall in tree_borders(items, other)]


def judge_trees(items, one, other):
    """A paper that the second tree never trips more than the first one, or that it does somewhere."""
    demand_items(items, one, other)
    found = judge_checks(len(items) + 1, more_tree_checks(items, one, other))
    if found[0] == "point":
        return ("trips", found[1][-1], found[1][:-1])
    return found


def trees_hold(items, one, other, thing):
    """Whether any value is a right paper that the second tree never trips more, or that it does."""
    demand_items(items, one, other)
    if not isinstance(thing, tuple):
        return False
    if len(thing) == 2 and thing[0] == "weights":
        return are_follow_papers(len(items) + 1, more_tree_checks(items, one, other), thing[1])
    if len(thing) != 3 or thing[0] != "trips":
        return False
    bound, inputs = thing[1:]
    if not is_bound(bound) or not are_integers(inputs, len(items)):
        return False
    point = (*inputs, bound)
    if not is_in_room((*input_borders(items), *tree_borders(items, one)), (), point):
        return False
    return not is_in_room(tree_borders(items, other), (), point)


def tree_program(items, tree):
    """The single program that reckons a tree."""
    demand_items(items, tree)
    n = len(items)
    ins = tuple([(LETTERS[at], item_kind(item)) for at, item in enumerate(items)])
    names = {(at,): LETTERS[at] for at in range(n)}
    body = []
    for at, item in enumerate(items):
        if item == -1:
            names[(at,)] = LETTERS[n + len(body)]
            body.append(("times", names[(at,)], SUM_KIND, -1, LETTERS[at]))
    sides = sides_within(made_plain(tree))
    for _, lot in sorted([(len(lot), lot) for lot in sides]):
        names[lot] = LETTERS[n + len(body)]
        near, far = sides[lot]
        body.append(("plus", names[lot], SUM_KIND, names[near], names[far]))
    return (ins, (), tuple(body), (body[-1][1],))


def sides_within(tree):
    """For the lot of each pair in a tree, or in a part of one: the integers of its two sides."""
    if not isinstance(tree, tuple):
        return {}
    sides = {leaves_of(tree): (leaves_of(tree[0]), leaves_of(tree[1]))}
    for part in tree:
        sides.update(sides_within(part))
    return sides


def best_trees(items):
    """The tuple of the best plain trees, in the order of all trees."""
    demand_items(items)
    # For each tree: its lots, and all lots whose sums fit wherever it does not trip.
    rows = [(tree, lots_within(tree), lots_held(items, tree)) for tree in all_trees(len(items))]
    return tuple([row[0] for row in rows if is_best(rows, row)])


def lots_held(items, tree):
    """The lots, as keys, whose sums fit wherever a tree does not trip."""
    walls = (*input_borders(items), *tree_borders(items, tree))
    held = {}
    for lot in all_lots(len(items)):
        checks = [(walls, (), wall) for wall in kind_borders(lot_form(items, lot), SUM_KIND)]
        if judge_checks(len(items) + 1, checks)[0] == "weights":
            held[lot] = True
    return held


def all_lots(n):
    """The lots that trees of n items can have."""
    found = []
    for many in range(2, n + 1):
        found.extend(list(combinations(range(n), many)))
    return found


def is_best(rows, row):
    """Whether a tree trips just as each tree does that never trips more; each has a row with its lots."""
    _, lots, held = row
    for _, other_lots, other_held in rows:
        if are_among(other_lots, held) and not are_among(lots, other_held):
            return False
    return True


def are_among(lots, held):
    """Whether all of some lots are among those that are held."""
    return all([lot in held for lot in lots])
