"""Trees counted, one by one and by signs, and nets told by their even cuts."""

from ringtables.base.bits import head_of, is_worded
from ringtables.errors import InvalidOperation, Refused
from ringtables.main.found import net_of
from ringtables.net.nets import is_net_of, one_piece, star
from ringtables.sign.signs import demand_few_lines, demand_signs, determinant, right_signs
from ringtables.table.sides import is_cut_with_row, uneven
from ringtables.table.tables import demand_lot, demand_table, every_line, rows_of


def tree_count(table):
    """How many trees the table has."""
    return len(_trees(table))


def trees_with(table):
    """For each line how many trees have it."""
    trees = _trees(table)
    return tuple([sum([tree >> line & 1 for tree in trees]) for line in range(table.many)])


def square(table, signs):
    """The products of each two rows of the signs."""
    demand_signs(table, signs)
    demand_few_lines(table)
    return tuple([tuple([row_product(row, other) for other in signs]) for row in signs])


def square_count(table, signs):
    """The determinant of the square."""
    return determinant(square(table, signs))


def lot_determinant(table, signs, lot):
    """The determinant of what the rows of the signs have at the lines of a lot."""
    demand_signs(table, signs)
    demand_lot(table, lot)
    demand_few_lines(table)
    if len(lot) != table.size:
        raise InvalidOperation("a lot of size-many lines is asked for")
    return determinant([[row[line] for line in lot] for row in signs])


def net_tree_count(net):
    """How many trees the net's table has."""
    whole = one_piece(net)
    # All stars but one, as each line has two ends.
    stars = [star(whole, knot) for knot in range(1, whole.knots)]
    rows = []
    for k, lot in enumerate(stars):
        joining = [-len([line for line in lot if line in other]) for other in stars]
        rows.append(joining[:k] + [len(lot)] + joining[k + 1:])
    return determinant(rows)


def net_or_uneven(table):
    """A net of a table with right signs, or a cut of it and an odd row of its bridges."""
    _demand_signed(table)
    net = net_of(table)
    return ("uneven",) + uneven(table) if net is None else ("net", net)


def is_net_or_uneven(table, value):
    """Tell whether the value is such a net, or such a cut and row, with its word."""
    _demand_signed(table)
    if is_worded(value, "net"):
        return is_net_of(table, value[1])
    return is_worded(value, "uneven", 3) and is_cut_with_row(table, value[1], value[2])


def row_product(row, other):
    """The sum of the products of two rows' numbers, line by line."""
    return sum([one * more for one, more in zip(row, other)])


def _trees(table):
    """The masks of all trees."""
    demand_table(table)
    demand_few_lines(table)
    rows = rows_of(table)
    columns = [sum([1 << k for k, row in enumerate(rows) if row >> line & 1]) for line in range(table.many)]
    # A tree is what is beyond as many columns as there are rows, no sum of which is 0.
    return [every_line(table) ^ basis for basis in _bases(columns, 0, table.size)]


def _bases(columns, line, due):
    """The masks of all lots of as many columns as are due, no sum of which is 0; the first one is of this line."""
    if due == 0:
        return [0]
    if due > len(columns):
        return []
    found = _bases(columns[1:], line + 1, due)
    head = head_of(columns[0])
    if head:
        # The column is joined: the others are told up to it.
        rest = [other ^ columns[0] if other & head else other for other in columns[1:]]
        found += [basis | 1 << line for basis in _bases(rest, line + 1, due - 1)]
    return found


def _demand_signed(table):
    if right_signs(table) is None:
        raise Refused(("signs",))
