"""Tables of lots, their sums and opposites."""

from ringtables.base.bits import cleared, head_of, is_ascending, is_between, is_tuple_of, is_whole, kernel, lot_of
from ringtables.base.bits import lots_of, mask_of, masks_of, parity, reduced, renumbered, shared
from ringtables.base.lots import MOST_LINES
from ringtables.errors import InvalidLot, InvalidNumber, InvalidOperation, InvalidTable, TooMany

MOST_TABLE_LOTS = 24
MOST_SUMS = 4096


class Table:
    """A table of 1 to 24 lines and a tuple of at most 24 lots of them."""

    def __init__(self, many, lots):
        if not is_between(many, 1, MOST_LINES):
            raise InvalidTable("a table has 1 to 24 lines")
        if not _are_lots_of(many, lots):
            raise InvalidTable("a table has a tuple of at most 24 lots of its lines")
        self._many = many
        self._lots = lots
        self._form = lots_of(reduced(masks_of(lots)))

    @property
    def many(self):
        """How many lines the table has."""
        return self._many

    @property
    def lots(self):
        """The lots with which the table was made."""
        return self._lots

    @property
    def form(self):
        """The form of the lots."""
        return self._form

    @property
    def size(self):
        """How many lots the form has."""
        return len(self._form)

    def __eq__(self, value):
        return isinstance(value, Table) and self._many == value._many and self._form == value._form

    def __str__(self):
        return f"table of {self._many} lines, size {len(self._form)}"


def is_lot(table, value):
    """Tell whether the value is a lot of lines of the table."""
    demand_table(table)
    return is_ascending(value, table.many)


def is_sum(table, lot):
    """Tell whether the lot is a sum of the table."""
    demand_table(table)
    demand_lot(table, lot)
    return not cleared(rows_of(table), mask_of(lot))


def sums(table):
    """The ascending tuple of all sums."""
    demand_table(table)
    return tuple(sorted(lots_of(sum_masks(table))))


def sum_count(table):
    """How many sums the table has."""
    demand_table(table)
    return 1 << table.size


def opposite(table):
    """The table whose sums are all lots that meet each sum evenly."""
    demand_table(table)
    return made(table.many, opposite_rows(table))


def is_within(one, other):
    """Tell whether each sum of the one is a sum of the other one."""
    _demand_alike(one, other)
    rows = rows_of(other)
    return not any([cleared(rows, row) for row in rows_of(one)])


def common(one, other):
    """The table of the sums that both have."""
    _demand_alike(one, other)
    return made(one.many, shared(rows_of(one), rows_of(other)))


def joint(one, other):
    """The table of all sums of a sum of the one and a sum of the other one."""
    _demand_alike(one, other)
    return made(one.many, rows_of(one) + rows_of(other))


def relined(table, order):
    """The table in which the line order[k] has the number k."""
    demand_table(table)
    _demand_order(table, order)
    return made(table.many, [renumbered(row, order) for row in rows_of(table)])


def order_back(table, order):
    """The order by which the relined table comes back."""
    demand_table(table)
    _demand_order(table, order)
    return tuple([order.index(line) for line in range(table.many)])


def sum_by(table, lot):
    """The indices of the lots of the form whose sum the lot is, None if it is no sum."""
    demand_table(table)
    demand_lot(table, lot)
    rows = rows_of(table)
    mask = mask_of(lot)
    if cleared(rows, mask):
        return None
    return tuple([k for k, row in enumerate(rows) if head_of(row) & mask])


def is_test(table, lot, value):
    """Tell whether the value is a sum of the opposite that meets the lot oddly."""
    demand_table(table)
    demand_lot(table, lot)
    if not is_ascending(value, table.many):
        return False
    test = mask_of(value)
    return parity(test & mask_of(lot)) == 1 and not any([parity(test & row) for row in rows_of(table)])


def tested(table, lot):
    """A sum of the opposite that meets the lot oddly, None if the lot is a sum."""
    demand_table(table)
    demand_lot(table, lot)
    mask = mask_of(lot)
    for row in opposite_rows(table):
        if parity(row & mask):
            return lot_of(row)
    return None


def is_order(many, value):
    """Tell whether the value is a tuple that has each of so many lines once."""
    # Sorting compares items, so what is no integer is refused before.
    if not is_tuple_of(value, many) or not all([is_whole(line) for line in value]):
        return False
    return sorted(value) == list(range(many))


def rows_of(table):
    """The masks of the lots of the form."""
    return masks_of(table.form)


def opposite_rows(table):
    """The masks of the lots of the form of the opposite."""
    return kernel(table.many, rows_of(table))


def every_line(table):
    """The mask of all lines."""
    return (1 << table.many) - 1


def made(many, masks):
    """The table of so many lines with the sums of the masks, its form as lots."""
    return Table(many, lots_of(reduced(masks)))


def sum_masks(table):
    """The masks of all sums: at each index the sum of the rows whose bits it has."""
    if 1 << table.size > MOST_SUMS:
        raise TooMany(MOST_SUMS)
    masks = [0]
    for row in rows_of(table):
        masks = masks + [mask ^ row for mask in masks]
    return masks


def demand_table(table):
    """Raise InvalidTable unless this is a table."""
    if not isinstance(table, Table):
        raise InvalidTable("a table is asked for")


def demand_lot(table, lot):
    """Raise InvalidLot unless this is a lot of lines of the table."""
    if not is_ascending(lot, table.many):
        raise InvalidLot("a lot of lines of the table is asked for")


def demand_line(table, line):
    """Raise InvalidNumber unless this is a line of the table."""
    if not is_between(line, 0, table.many - 1):
        raise InvalidNumber(line)


def _demand_alike(one, other):
    demand_table(one)
    demand_table(other)
    if one.many != other.many:
        raise InvalidOperation("two tables with equally many lines are asked for")


def _demand_order(table, order):
    if not is_order(table.many, order):
        raise InvalidOperation("an order is a tuple that has each line once")


def _are_lots_of(many, lots):
    if not isinstance(lots, tuple) or len(lots) > MOST_TABLE_LOTS:
        return False
    return all([is_ascending(lot, many) for lot in lots])
