"""Lesser tables, by leaving lines out and joining them, and the way back."""

from ringtables.base.bits import is_ascending, is_between, is_tuple_of, is_worded, mask_of, renumbered, within
from ringtables.base.lots import MOST_LINES
from ringtables.errors import InvalidOperation, Refused, TooMany
from ringtables.table.tables import demand_lot, demand_table, made, opposite_rows, rows_of


def lesser(table, step):
    """The table behind a step."""
    demand_table(table)
    if not is_step(table.many, step):
        raise InvalidOperation("a step of the table is asked for")
    _refuse_nothing(table, 1)
    word, line = step
    return _lesser_by(table, (line,), ()) if word == "out" else _lesser_by(table, (), (line,))


def behind(table, steps):
    """The table behind steps."""
    outs, joins = gathered(table, steps)
    return _lesser_by(table, outs, joins)


def stays(table, steps):
    """The lines that stay behind steps, as they were numbered."""
    return _demand_steps(table, steps)[2]


def gathered(table, steps):
    """The pair of the lines that the steps leave out, and of those that they join, as they were numbered."""
    return _demand_steps(table, steps)[:2]


def without(table, lot):
    """The table with all lines of the lot left out."""
    demand_table(table)
    demand_lot(table, lot)
    _refuse_nothing(table, len(lot))
    return _lesser_by(table, lot, ())


def joined_by(table, lot):
    """The table with all lines of the lot joined."""
    demand_table(table)
    demand_lot(table, lot)
    _refuse_nothing(table, len(lot))
    return _lesser_by(table, (), lot)


def lesser_by(table, outs, joins):
    """The table with some lines left out, and some joined."""
    _demand_outs_joins(table, outs, joins)
    return _lesser_by(table, outs, joins)


def steps_for(table, outs, joins):
    """Steps that leave out and join just these lines."""
    _demand_outs_joins(table, outs, joins)
    steps = [(line, "out") for line in outs] + [(line, "join") for line in joins]
    # Greater lines go first, so that those which are left to go keep their numbers.
    return tuple([(word, line) for line, word in sorted(steps, reverse=True)])


def is_steps_for(table, outs, joins, value):
    """Tell whether the value is such steps."""
    _demand_outs_joins(table, outs, joins)
    told = followed(table, value)
    return told is not None and told[:2] == (outs, joins)


def are_tidy(table, outs, joins):
    """Tell whether no ring lies in the joins, and no cut in the outs."""
    _demand_outs_joins(table, outs, joins)
    return _are_tidy(table, outs, joins)


def tidy(table, outs, joins):
    """A tidy pair with the same lines together, and the same table."""
    _demand_outs_joins(table, outs, joins)
    # Lines keep their bits here: one that is gone is in no row.
    rows = rows_of(table)
    more = opposite_rows(table)
    found = {"out": [], "join": []}
    for line in sorted(outs + joins):
        bit = 1 << line
        is_out = not within(more, bit) if line in outs else bool(within(rows, bit))
        found["out" if is_out else "join"].append(line)
        rows = within(rows, ~bit) if is_out else [row & ~bit for row in rows]
        more = [row & ~bit for row in more] if is_out else within(more, ~bit)
    return (tuple(found["out"]), tuple(found["join"]))


def is_tidy(table, outs, joins, value):
    """Tell whether the value is such a pair."""
    _demand_outs_joins(table, outs, joins)
    if not is_tuple_of(value, 2) or not all([is_ascending(lot, table.many) for lot in value]):
        return False
    fresh, others = value
    if sorted(fresh + others) != sorted(outs + joins) or not _are_tidy(table, fresh, others):
        return False
    return _lesser_by(table, fresh, others) == _lesser_by(table, outs, joins)


def widened(table, lot):
    """The table with one line more, the last one, that is a sum together with the lot."""
    demand_table(table)
    demand_lot(table, lot)
    _demand_room(table)
    return made(table.many + 1, rows_of(table) + [mask_of(lot) | (1 << table.many)])


def lengthened(table, pick):
    """The table with one line more, the last one, that stands with the picked lots of the form."""
    demand_table(table)
    if not is_ascending(pick, table.size):
        raise InvalidOperation("a pick is an ascending tuple of indices of lots of the form")
    _demand_room(table)
    bit = 1 << table.many
    return made(table.many + 1, [row | bit if k in pick else row for k, row in enumerate(rows_of(table))])


def steps_to(table, other):
    """The ascending tuple of the steps that lead to the other table."""
    demand_table(table)
    demand_table(other)
    if other.many != table.many - 1:
        return ()
    steps = [(word, line) for word in ("join", "out") for line in range(table.many)]
    return tuple([step for step in steps if lesser(table, step) == other])


def is_step(many, value):
    """Tell whether the value is a step of a table with so many lines, be it one that leaves none."""
    return (is_worded(value, "out") or is_worded(value, "join")) and is_between(value[1], 0, many - 1)


def followed(table, steps):
    """The lines left out, joined, and staying behind the steps; None unless these are steps."""
    if not isinstance(steps, tuple):
        return None
    found = {"out": [], "join": []}
    stay = list(range(table.many))
    for step in steps:
        if len(stay) == 1 or not is_step(len(stay), step):
            return None
        word, number = step
        found[word].append(stay.pop(number))
    return (tuple(sorted(found["out"])), tuple(sorted(found["join"])), tuple(stay))


def _lesser_by(table, outs, joins):
    stay = [line for line in range(table.many) if line not in outs and line not in joins]
    rows = within(rows_of(table), ~mask_of(outs))
    return made(len(stay), [renumbered(row, stay) for row in rows])


def _are_tidy(table, outs, joins):
    return not within(rows_of(table), mask_of(joins)) and not within(opposite_rows(table), mask_of(outs))


def _demand_steps(table, steps):
    demand_table(table)
    told = followed(table, steps)
    if told is None:
        raise InvalidOperation("steps are a tuple of steps, each one of the table that then stands")
    return told


def _demand_outs_joins(table, outs, joins):
    demand_table(table)
    demand_lot(table, outs)
    demand_lot(table, joins)
    if mask_of(outs) & mask_of(joins):
        raise InvalidOperation("a line can't be left out and joined both")
    _refuse_nothing(table, len(outs) + len(joins))


def _refuse_nothing(table, gone):
    if gone == table.many:
        raise Refused(("nothing",))


def _demand_room(table):
    if table.many == MOST_LINES:
        raise TooMany(MOST_LINES)
