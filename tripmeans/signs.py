"""One point for all signs that are asked for, or a sum that shows that there is none (T. Motzkin 1936).

Rows (walls of one width) are to be kept by a point, the weak ones with values not below 0, the strict ones
with values above 0. The numbers that are reckoned with are integers throughout: each entry of the tableau is
a determinant of entries of the rows, so none grows beyond what a determinant of the width can be.
"""

from tripmeans.integers import divided


def judge_signs(width, weak, strict):
    """("point", point) that keeps all rows, or ("sum", ws, ss): weights with which the rows sum up to zeros.

    In a sum no weight is below 0, and some weight of a strict row is above 0.
    """
    many = len(weak) + len(strict)
    rows, scale, basis = settled_rows(first_rows(width, weak, strict), width, many)
    start = list(basis)
    column = best_column(rows[-1], many)
    while column >= 0:
        at = leaving_row(rows, column, start)
        if at < 0:
            weights = divided(weights_of(rows, scale, basis, column, many))
            return ("sum", tuple(weights[:len(weak)]), tuple(weights[len(weak):]))
        rows, scale = pivoted(rows, scale, at, column), rows[at][column]
        basis[at] = column
        column = best_column(rows[-1], many)
    return ("point", tuple(divided([-x for x in rows[-1][many:]])))


def first_rows(width, weak, strict):
    """The tableau at the beginning: a row for each place of a point, and the row of the goal.

    It has a column for the weight of each given row; the sum of those of the strict ones is the goal, which
    is to rise above 0 while the sum of the given rows stays at zeros. The last columns, one for each place,
    note which rows went into which: in the row of the goal they are the point, with other signs.
    """
    given = list(weak) + list(strict)
    rows = []
    for k in range(width):
        rows.append([row[k] for row in given] + [int(k == at) for at in range(width)])
    rows.append([0] * len(weak) + [1] * len(strict) + [0] * width)
    return rows


def pivoted(rows, scale, at, column):
    """The tableau behind an exchange; all its entries have this scale as their divisor, then the pivot."""
    base = rows[at]
    pivot = base[column]
    out = []
    for number, row in enumerate(rows):
        times = row[column]
        if number == at:
            out.append(base)
        elif times == 0:
            out.append([x * pivot // scale for x in row])
        else:
            out.append([(x * pivot - y * times) // scale for x, y in zip(row, base)])
    return out


def settled_rows(rows, width, many):
    """The tableau with a column of its own for each row that says something, its scale, these columns."""
    scale = 1
    basis = []
    for at in range(width):
        column = first_column(rows[at], many)
        basis.append(column)
        if column >= 0:
            # All sums are to be 0, so a row may be turned round: pivots, and with them scales, stay above 0.
            if rows[at][column] < 0:
                rows[at] = [-x for x in rows[at]]
            rows, scale = pivoted(rows, scale, at, column), rows[at][column]
    kept = [at for at in range(width) if basis[at] >= 0]
    return [rows[at] for at in kept] + [rows[-1]], scale, [basis[at] for at in kept]


def first_column(row, many):
    """The first of so many columns in which the row is not 0; -1 if there is none."""
    for column in range(many):
        if row[column] != 0:
            return column
    return -1


def best_column(goal, many):
    """The first of so many columns that raises the goal most; -1 if none does."""
    most = max(goal[:many], default=0)
    return goal.index(most) if most > 0 else -1


def leaving_row(rows, column, start):
    """The row that bounds the weight of a column first; -1 if none does.

    All weights are 0 here, so all bounds are alike; the columns of the first basis tell them apart as if
    each row had a small number of its own to give. Without that the exchanges could go round for ever.
    """
    found = -1
    for at in range(len(rows) - 1):
        if rows[at][column] > 0 and (found < 0 or is_sooner(rows[at], rows[found], column, start)):
            found = at
    return found


def is_sooner(row, other, column, start):
    """Whether a row bounds a column ahead of another row, as the columns of the first basis tell."""
    for k in start:
        one, two = row[k] * other[column], other[k] * row[column]
        if one != two:
            return one < two
    return False


def weights_of(rows, scale, basis, column, many):
    """The weights of all columns along the ray on which the goal rises with the weight of this column."""
    weights = [0] * many
    weights[column] = scale
    for at, place in enumerate(basis):
        weights[place] = -rows[at][column]
    return weights
