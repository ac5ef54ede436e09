"""Rings and cuts of tables, and the painting of their lines."""

from math import comb

from ringtables.base.bits import head_of, is_ascending, is_least, is_worded, lot_of, lots_of, mask_of, within
from ringtables.errors import InvalidLot, InvalidOperation
from ringtables.table.tables import demand_line, demand_lot, demand_table, is_sum, opposite, opposite_rows, rows_of
from ringtables.table.tables import sum_masks


def is_ring(table, value):
    """Tell whether the value is a ring."""
    demand_table(table)
    return is_ascending(value, table.many) and is_least(rows_of(table), mask_of(value))


def is_cut(table, value):
    """Tell whether the value is a cut."""
    return is_ring(opposite(table), value)


def rings(table):
    """The ascending tuple of all rings."""
    demand_table(table)
    return tuple(sorted(_least_lots(rows_of(table), sum_masks(table))))


def cuts(table):
    """The ascending tuple of all cuts."""
    return rings(opposite(table))


def ring_parts(table, lot):
    """An ascending tuple of rings without common lines whose sum the lot is."""
    _demand_sum(table, lot)
    rows = rows_of(table)
    left = mask_of(lot)
    parts = []
    while left:
        # Each lot of a form is a ring.
        part = within(rows, left)[0]
        parts.append(part)
        left ^= part
    return tuple(sorted(lots_of(parts)))


def is_ring_parts(table, lot, value):
    """Tell whether the value is such a tuple of rings."""
    _demand_sum(table, lot)
    if not isinstance(value, tuple) or not all([is_ring(table, part) for part in value]):
        return False
    return value == tuple(sorted(value)) and sorted([line for part in value for line in part]) == list(lot)


def painted(table, line, first):
    """A ring with the line and else first-coloured lines, or a cut with it and else others."""
    _demand_painting(table, line, first)
    ring = _least_with(rows_of(table), line, mask_of(first))
    if ring:
        return ("ring", lot_of(ring))
    others = [other for other in range(table.many) if other not in first]
    return ("cut", lot_of(_least_with(opposite_rows(table), line, mask_of(others))))


def is_painted(table, line, first, value):
    """Tell whether the value is such a ring, or such a cut, with its word."""
    _demand_painting(table, line, first)
    if is_worded(value, "ring") and is_ring(table, value[1]):
        return line in value[1] and all([other in first for other in value[1] if other != line])
    if is_worded(value, "cut") and is_cut(table, value[1]):
        return line in value[1] and not any([other in first for other in value[1]])
    return False


def exchanged(table, one, other, line, kept):
    """A ring with the kept line and else lines of the two rings, but not their common line that is told."""
    _demand_exchange(table, one, other, line, kept)
    return lot_of(_least_with(rows_of(table), kept, mask_of(one) ^ mask_of(other)))


def is_exchanged(table, one, other, line, kept, value):
    """Tell whether the value is such a ring."""
    _demand_exchange(table, one, other, line, kept)
    if not is_ring(table, value):
        return False
    return kept in value and line not in value and all([part in one or part in other for part in value])


def size_counts(table):
    """How many sums have 0, 1, .. lines."""
    demand_table(table)
    if 2 * table.size <= table.many:
        return tuple(_counts(table))
    # The lesser one of both sizes is at most 12, and tells both.
    counts = _counts(opposite(table))
    found = []
    for many in range(table.many + 1):
        whole = sum([count * _weight(table.many, k, many) for k, count in enumerate(counts)])
        found.append(whole >> (table.many - table.size))
    return tuple(found)


def _least_lots(rows, masks):
    """The lots of the least ones of the masks of all sums of a form."""
    having = [_having(rows, line) for line in range(max(masks).bit_length())]
    found = []
    # A sum within another one has its heads among that one's, so it has the lesser index: the first one left is least.
    left = (1 << len(masks)) - 2
    while left:
        lot = lot_of(masks[head_of(left).bit_length() - 1])
        found.append(lot)
        above = left
        for line in lot:
            above &= having[line]
        left ^= above
    return found


def _having(rows, line):
    """The indices, as the bits of a number, of the sums of a form that have the line."""
    bits = 0
    for k, row in enumerate(rows):
        span = 1 << k
        more = bits ^ ((1 << span) - 1) if row >> line & 1 else bits
        bits |= more << span
    return bits


def _least_with(rows, line, others):
    """The mask of a least sum with the line and else lines of the mask of the others, 0 if there is none."""
    bit = 1 << line
    # Some lot of the form has the line if some sum has it; and lots of a form are least sums.
    found = [row for row in within(rows, others | bit) if row & bit]
    return found[0] if found else 0


def _counts(table):
    counts = [0] * (table.many + 1)
    for lot in lots_of(sum_masks(table)):
        counts[len(lot)] += 1
    return counts


def _weight(many, first, size):
    """The lots of so many lines of the size, those counted as -1 that meet the first lines oddly."""
    ways = [comb(first, h) * comb(many - first, size - h) for h in range(min(first, size) + 1)]
    return sum(ways[::2]) - sum(ways[1::2])


def demand_cut(table, cut):
    """Raise InvalidLot unless this is a lot of lines of the table, InvalidOperation unless it is a cut."""
    demand_table(table)
    demand_lot(table, cut)
    if not is_least(opposite_rows(table), mask_of(cut)):
        raise InvalidOperation("a cut of the table is asked for")


def _demand_sum(table, lot):
    # is_sum has the checks of the table and the lot.
    if not is_sum(table, lot):
        raise InvalidOperation("a sum of the table is asked for")


def _demand_painting(table, line, first):
    demand_table(table)
    demand_line(table, line)
    demand_lot(table, first)
    if line in first:
        raise InvalidOperation("the line itself has no colour")


def _demand_exchange(table, one, other, line, kept):
    demand_table(table)
    if not is_ring(table, one) or not is_ring(table, other):
        raise InvalidLot("two rings of the table are asked for")
    demand_line(table, line)
    demand_line(table, kept)
    if line not in one or line not in other:
        raise InvalidOperation("both rings must have the line")
    if (kept in one) == (kept in other):
        raise InvalidOperation("just one of the rings must have the line that is kept")
