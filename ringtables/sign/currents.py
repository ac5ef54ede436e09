"""Flows, tensions and currents by right signs, exactly."""

from math import gcd

from ringtables.base.bits import is_between, is_row, is_tuple_of, is_whole, is_worded
from ringtables.errors import InvalidRow
from ringtables.sign.counts import row_product
from ringtables.sign.signs import demand_right, demand_signs, determinant
from ringtables.table.rings import is_cut, is_ring
from ringtables.table.tables import demand_line

MOST_WEIGHT = 10 ** 6


def is_flow(table, signs, value):
    """Tell whether the value is a flow, a row of integers of any length."""
    demand_signs(table, signs)
    demand_right(table, signs)
    return _is_flow(table, signs, value)


def is_tension(table, signs, value):
    """Tell whether the value is a tension, a row of integers of any length."""
    demand_signs(table, signs)
    demand_right(table, signs)
    return _is_tension(table, signs, value)


def flow_or_cut(table, signs, row):
    """The numbers by which rows of the signs make the row, or a signed cut that has a product with it."""
    _demand_signs_row(table, signs, row)
    numbers = _at_heads(table, row)
    flow = _flow(table, signs, numbers)
    for line in range(table.many):
        if flow[line] != row[line]:
            return ("cut", _signed_cut(table, signs, line))
    return ("flow", numbers)


def is_flow_or_cut(table, signs, row, value):
    """Tell whether the value is such numbers, or such a signed cut, with its word."""
    _demand_signs_row(table, signs, row)
    if is_worded(value, "flow"):
        return _are_numbers(value[1], table.size) and _flow(table, signs, value[1]) == row
    if not is_worded(value, "cut") or not _is_tension(table, signs, value[1]):
        return False
    return is_cut(table, _signed_lot(value[1])) and row_product(value[1], row) != 0


def tension_or_ring(table, signs, row):
    """("tension",), or a signed ring that has a product with the row."""
    _demand_signs_row(table, signs, row)
    rings = [ring for ring in signs if row_product(ring, row)]
    return ("ring", rings[0]) if rings else ("tension",)


def is_tension_or_ring(table, signs, row, value):
    """Tell whether the value is ("tension",) for a tension, or such a signed ring with its word."""
    _demand_signs_row(table, signs, row)
    if is_worded(value, "tension", 1):
        return _is_tension(table, signs, row)
    if not is_worded(value, "ring") or not _is_flow(table, signs, value[1]):
        return False
    return is_ring(table, _signed_lot(value[1])) and row_product(value[1], row) != 0


def bottom(table, signs, weights):
    """The sum over all trees of the product of the weights off the tree."""
    demand_signs(table, signs)
    _demand_weights(table, weights)
    demand_right(table, signs)
    return determinant(_weighted(signs, weights))


def currents(table, signs, weights, sources):
    """The bottom, and the flow and the tension, both times the bottom."""
    _demand_sources(table, signs, weights, sources)
    return _currents(table, signs, weights, sources)


def are_currents(table, signs, weights, sources, value):
    """Tell whether the value is a number from 1 on, and the flow and the tension, both times this number."""
    _demand_sources(table, signs, weights, sources)
    if not is_tuple_of(value, 3) or not is_whole(value[0]) or value[0] < 1:
        return False
    number, flow, tension = value
    if not _is_flow(table, signs, flow) or not _is_tension(table, signs, tension):
        return False
    return all([weights[line] * flow[line] + tension[line] == number * sources[line] for line in range(table.many)])


def share(table, signs, weights, line):
    """The chance that the tree has the line, a pair (top, bottom) in lowest terms."""
    demand_signs(table, signs)
    _demand_weights(table, weights)
    demand_line(table, line)
    demand_right(table, signs)
    whole, _, tension = _currents(table, signs, weights, [1 if k == line else 0 for k in range(table.many)])
    common = gcd(whole, tension[line])
    return (tension[line] // common, whole // common)


def _are_numbers(value, many):
    """Tell whether the value is a tuple of so many integers of any length."""
    return is_tuple_of(value, many) and all([is_whole(number) for number in value])


def _at_heads(table, row):
    """What the row has at the heads: a flow is made by these numbers."""
    return tuple([row[lot[0]] for lot in table.form])


def _flow(table, signs, numbers):
    """The sum of the rows of the signs, each times its number."""
    return tuple([sum([number * row[line] for number, row in zip(numbers, signs)]) for line in range(table.many)])


def _is_flow(table, signs, value):
    return _are_numbers(value, table.many) and _flow(table, signs, _at_heads(table, value)) == value


def _is_tension(table, signs, value):
    return _are_numbers(value, table.many) and not any([row_product(row, value) for row in signs])


def _signed_cut(table, signs, line):
    """The tension that is 1 at a line off the heads, and else has numbers at heads alone."""
    found = [0] * table.many
    found[line] = 1
    for lot, row in zip(table.form, signs):
        found[lot[0]] = -row[line]
    return tuple(found)


def _signed_lot(row):
    """The lot of the lines at which the row has 1 or -1; None if it has other numbers than -1, 0, 1."""
    if not all([number in (-1, 0, 1) for number in row]):
        return None
    return tuple([line for line, number in enumerate(row) if number])


def _weighted(signs, weights):
    """The products of each two rows of the signs, weights put in."""
    heavy = [[weight * number for weight, number in zip(weights, row)] for row in signs]
    return [[row_product(row, other) for other in signs] for row in heavy]


def _currents(table, signs, weights, sources):
    rows = _weighted(signs, weights)
    whole = determinant(rows)
    asked = [row_product(row, sources) for row in signs]
    # Rows and columns are alike here, so the numbers asked for take the place of a row (Cramer).
    numbers = [determinant(rows[:k] + [asked] + rows[k + 1:]) for k in range(len(rows))]
    flow = _flow(table, signs, numbers)
    tension = [whole * source - weight * part for source, weight, part in zip(sources, weights, flow)]
    return (whole, flow, tuple(tension))


def _demand_row(table, row):
    if not is_row(row, table.many):
        raise InvalidRow("a tuple of an integer of at most sixty digits for each line is asked for")


def _demand_weights(table, weights):
    if not is_tuple_of(weights, table.many) or not all([is_between(weight, 1, MOST_WEIGHT) for weight in weights]):
        raise InvalidRow("weights are a tuple of an integer from 1 to 10 ** 6 for each line")


def _demand_signs_row(table, signs, row):
    demand_signs(table, signs)
    _demand_row(table, row)
    demand_right(table, signs)


def _demand_sources(table, signs, weights, sources):
    demand_signs(table, signs)
    _demand_weights(table, weights)
    _demand_row(table, sources)
    demand_right(table, signs)
