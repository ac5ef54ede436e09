"""Trees of tables, their own rings and own cuts, and exchanges."""

from ringtables.base.bits import is_ascending, is_row, is_tuple_of, is_whole, lot_of, mask_of, within
from ringtables.errors import InvalidOperation, InvalidRow
from ringtables.table.tables import demand_line, demand_lot, demand_table, opposite_rows, rows_of


def rank(table, lot):
    """The greatest number of lines of the lot without a ring within."""
    demand_table(table)
    demand_lot(table, lot)
    return len(lot) - len(within(rows_of(table), mask_of(lot)))


def is_tree(table, value):
    """Tell whether the value is a tree."""
    demand_table(table)
    if not is_ascending(value, table.many) or len(value) != table.many - table.size:
        return False
    return not within(rows_of(table), mask_of(value))


def tree_of(table):
    """The tree of all lines that are no heads of the form."""
    demand_table(table)
    heads = [lot[0] for lot in table.form]
    return tuple([line for line in range(table.many) if line not in heads])


def own_ring(table, tree, line):
    """The ring that the line, off the tree, makes with lines of it."""
    _demand_tree_line(table, tree, line)
    if line in tree:
        raise InvalidOperation("a line off the tree is asked for")
    return _own_ring(table, tree, line)


def own_cut(table, tree, line):
    """The cut with the line of the tree, and without further lines of it."""
    _demand_tree_line(table, tree, line)
    if line not in tree:
        raise InvalidOperation("a line of the tree is asked for")
    return _own_cut(table, tree, line)


def exchange(table, one, other, line):
    """A line that can change places, both ways, with this line of the one tree alone."""
    return _exchange_lines(table, one, other, line)[0]


def is_exchange(table, one, other, line, value):
    """Tell whether the value is such a line."""
    lines = _exchange_lines(table, one, other, line)
    return is_whole(value) and value in lines


def exchanges(table, one, other):
    """Pairs of lines that lead, one exchange behind the other, from one tree to the other."""
    demand_table(table)
    _demand_tree(table, one)
    _demand_tree(table, other)
    tree = one
    pairs = []
    for line in _lines_without(one, other):
        fresh = _exchange_lines(table, tree, other, line)[0]
        pairs.append((line, fresh))
        tree = _changed(tree, line, fresh)
    return tuple(pairs)


def are_exchanges(table, one, other, value):
    """Tell whether the value is such pairs."""
    demand_table(table)
    _demand_tree(table, one)
    _demand_tree(table, other)
    if not is_tuple_of(value, len(_lines_without(one, other))):
        return False
    tree = one
    for pair in value:
        if not is_tuple_of(pair, 2) or not all([is_whole(line) for line in pair]):
            return False
        line, fresh = pair
        if line not in tree or fresh in tree or not is_tree(table, _changed(tree, line, fresh)):
            return False
        tree = _changed(tree, line, fresh)
    return tree == other


def least_tree(table, weights):
    """A tree with the least sum of weights."""
    demand_table(table)
    _demand_weights(table, weights)
    rows = rows_of(table)
    tree = []
    for line in sorted(range(table.many), key=lambda k: weights[k]):
        if not within(rows, mask_of(tree + [line])):
            tree.append(line)
    return tuple(sorted(tree))


def is_least_tree(table, weights, value):
    """Tell whether the value is such a tree."""
    least = _weight(weights, least_tree(table, weights))
    return is_tree(table, value) and _weight(weights, value) == least


def _own_ring(table, tree, line):
    return lot_of(within(rows_of(table), mask_of(tree) | (1 << line))[0])


def _own_cut(table, tree, line):
    return lot_of(within(opposite_rows(table), ~mask_of(tree) | (1 << line))[0])


def _lines_without(lot, other):
    return [line for line in lot if line not in other]


def _changed(tree, line, fresh):
    return tuple(sorted([other for other in tree if other != line] + [fresh]))


def _exchange_lines(table, one, other, line):
    """All lines that can change places, both ways, with this line of the one tree alone."""
    demand_table(table)
    _demand_tree(table, one)
    _demand_tree(table, other)
    demand_line(table, line)
    if line not in one or line in other:
        raise InvalidOperation("a line of the one tree alone is asked for")
    cut = _own_cut(table, one, line)
    return [fresh for fresh in _own_ring(table, other, line) if fresh in cut and fresh != line]


def _weight(weights, lot):
    return sum([weights[line] for line in lot])


def _demand_tree(table, tree):
    demand_lot(table, tree)
    if not is_tree(table, tree):
        raise InvalidOperation("a tree of the table is asked for")


def _demand_tree_line(table, tree, line):
    demand_table(table)
    _demand_tree(table, tree)
    demand_line(table, line)


def _demand_weights(table, weights):
    if not is_row(weights, table.many):
        raise InvalidRow("weights are a tuple of an integer of at most sixty digits for each line")
