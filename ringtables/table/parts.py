"""Parts of tables, and tables put together and taken apart."""

from ringtables.base.bits import hanging, is_ascending, is_between, lots_of, mask_of, reduced, renumbered, within
from ringtables.base.lots import MOST_LINES
from ringtables.errors import InvalidNumber, InvalidOperation, Refused, TooMany
from ringtables.table.tables import demand_line, demand_table, every_line, made, rows_of


def parts(table):
    """The ascending tuple of the lots of lines that hang together."""
    demand_table(table)
    return lots_of(hanging(rows_of(table), every_line(table)))


def does_hang(table):
    """Tell whether the table has just one part."""
    return len(parts(table)) == 1


def part_table(table, part):
    """The pair of the table of a part, and of what its lines were."""
    lots = parts(table)
    if not is_between(part, 0, len(lots) - 1):
        raise InvalidNumber(part)
    lot = lots[part]
    return (made(len(lot), [renumbered(row, lot) for row in rows_of(table)]), lot)


def beside(one, other):
    """The table with the lines of both, and the sums of both together."""
    demand_table(one)
    demand_table(other)
    _demand_room(one.many + other.many)
    return made(one.many + other.many, _rows_beside(one, other))


def tied(one, line, other, further):
    """The table of both tied at a line of each."""
    demand_table(one)
    demand_line(one, line)
    demand_table(other)
    demand_line(other, further)
    many = one.many + other.many
    if many == 2:
        raise Refused(("nothing",))
    _demand_room(many - 2)
    ends = (1 << line) | (1 << (one.many + further))
    rows = _rows_beside(one, other)
    odd = [row for row in rows if row & ends]
    even = [row for row in rows if not row & ends]
    # A row has one of the tied lines at most, so two that have one have together both or none.
    fitting = even + [row ^ odd[0] for row in odd[1:]]
    stay = [k for k in range(many) if k not in (line, one.many + further)]
    return made(many - 2, [renumbered(row, stay) for row in fitting])


def is_seam(table, value):
    """Tell whether the value is a seam."""
    demand_table(table)
    if not is_ascending(value, table.many) or not 2 <= len(value) <= table.many - 2:
        return False
    return does_hang(table) and len(_rows_apart(table, mask_of(value))) == table.size - 1


def taken_apart(table, seam):
    """The pair of the tables on both sides of the seam, each with a new line, the last one."""
    if not is_seam(table, seam):
        raise InvalidOperation("a seam of the table is asked for")
    others = tuple([line for line in range(table.many) if line not in seam])
    return (_side(table, seam), _side(table, others))


def _rows_beside(one, other):
    return rows_of(one) + [row << one.many for row in rows_of(other)]


def _rows_apart(table, mask):
    """The form of all sums of one within the mask, and one beyond it."""
    rows = rows_of(table)
    return reduced(within(rows, mask) + within(rows, ~mask))


def _side(table, lot):
    """The table of a seam's side with the new line."""
    bit = 1 << table.many
    apart = _rows_apart(table, mask_of(lot))
    rows = [row | bit if _is_new(apart, row) else row for row in rows_of(table)]
    return made(len(lot) + 1, [renumbered(row, lot + (table.many,)) for row in rows])


def _is_new(rows, row):
    return len(reduced(rows + [row])) > len(rows)


def _demand_room(many):
    if many > MOST_LINES:
        raise TooMany(MOST_LINES)
