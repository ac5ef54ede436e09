"""Ways and stars that are there in some net of a table."""

from ringtables.base.bits import is_ascending, is_between, is_worded, lot_of, mask_of, within
from ringtables.base.lots import MOST_LINES
from ringtables.errors import InvalidLot, InvalidOperation, Refused, TooMany
from ringtables.main.bars import is_bar, net_or_bar
from ringtables.main.found import net_of, nets_glued
from ringtables.net.nets import Net, demand_net, is_net_of, star, way_ends
from ringtables.table.bridges import bridges, clashes, component
from ringtables.table.parts import does_hang
from ringtables.table.rings import demand_cut, is_ring
from ringtables.table.tables import Table, demand_lot, demand_table, rows_of

MOST_CLOSED = 8


def is_way_in(net, value):
    """Tell whether the value is a way in the net."""
    demand_net(net)
    return is_ascending(value, len(net.lines)) and way_ends(net, value) is not None


def ends_of(net, lot):
    """The ascending pair of the knots at the ends of a way, None if the lot is none."""
    demand_net(net)
    if not is_ascending(lot, len(net.lines)):
        raise InvalidLot("a lot of lines of the net is asked for")
    _demand_lines((lot,))
    return way_ends(net, lot)


def closed(table, lots):
    """The table closed by the lots: for each of them it gets a further line, in a sum with it."""
    _demand_lots(table, lots)
    return _closed(table, lots)


def way_or_paper(table, lot):
    """A net of the table in which the lot is a way, a ring within the lot, or a bar of the closed table."""
    _demand_way(table, lot)
    told = _ways_or_paper(table, (lot,))
    if told[0] == "ways":
        return ("way", told[1])
    return ("ring", told[2]) if told[0] == "ring" else told


def is_way_or_paper(table, lot, value):
    """Tell whether the value is such a net, such a ring, or such a bar, with its word."""
    _demand_way(table, lot)
    if is_worded(value, "way"):
        return is_ways_or_paper(table, (lot,), ("ways", value[1]))
    if is_worded(value, "ring"):
        return is_ways_or_paper(table, (lot,), ("ring", 0, value[1]))
    return is_worded(value, "bar") and is_ways_or_paper(table, (lot,), value)


def ways_or_paper(table, lots):
    """A net of the table in which all lots are ways, a ring within one of them, or a bar of the closed table."""
    _demand_lots(table, lots)
    return _ways_or_paper(table, lots)


def is_ways_or_paper(table, lots, value):
    """Tell whether the value is such a net, such a ring with the lot's index, or such a bar, with its word."""
    _demand_lots(table, lots)
    if is_worded(value, "ways"):
        return is_net_of(table, value[1]) and all([is_way_in(value[1], lot) for lot in lots])
    if is_worded(value, "ring", 3) and is_between(value[1], 0, len(lots) - 1) and is_ring(table, value[2]):
        return all([line in lots[value[1]] for line in value[2]])
    return is_worded(value, "bar") and is_bar(_closed(table, lots), value[1])


def star_or_clash(table, cut):
    """A net of the table in which the cut is a star, or two bridges of it that clash."""
    _demand_star(table, cut)
    pairs = clashes(table, cut)
    if pairs:
        return ("clash",) + pairs[0]
    many = len(bridges(table, cut))
    if many < 2:
        # Such a cut is a star in each net.
        return ("star", net_of(table))
    # As none clash, all bridges are put on one side, and the other one is a lone knot.
    return ("star", nets_glued(table, cut, tuple([net_of(component(table, cut, k)[0]) for k in range(many)])))


def is_star_or_clash(table, cut, value):
    """Tell whether the value is such a net, or two such bridges, with its word."""
    _demand_star(table, cut)
    if is_worded(value, "star"):
        return is_net_of(table, value[1]) and cut in [star(value[1], knot) for knot in range(value[1].knots)]
    if not is_worded(value, "clash", 3) or not all([is_between(k, 0, MOST_LINES) for k in value[1:]]):
        return False
    return value[1:] in clashes(table, cut)


def _closed(table, lots):
    fresh = tuple([lot + (table.many + k,) for k, lot in enumerate(lots)])
    return Table(table.many + len(lots), table.form + fresh)


def _ways_or_paper(table, lots):
    for k, lot in enumerate(lots):
        found = within(rows_of(table), mask_of(lot))
        if found:
            # Each lot of a form is a ring.
            return ("ring", k, lot_of(found[0]))
    told = net_or_bar(_closed(table, lots))
    return ("ways", Net(told[1].knots, told[1].lines[:table.many])) if told[0] == "net" else told


def _demand_lines(lots):
    if () in lots:
        raise InvalidOperation("lots with a line at least are asked for")


def _demand_way(table, lot):
    demand_table(table)
    demand_lot(table, lot)
    _demand_lines((lot,))
    _demand_room(table.many + 1)


def _demand_lots(table, lots):
    demand_table(table)
    if not isinstance(lots, tuple) or not is_between(len(lots), 1, MOST_CLOSED):
        raise InvalidLot("a tuple of 1 to 8 lots is asked for")
    for lot in lots:
        demand_lot(table, lot)
    _demand_lines(lots)
    _demand_room(table.many + len(lots))


def _demand_room(many):
    if many > MOST_LINES:
        raise TooMany(MOST_LINES)


def _demand_star(table, cut):
    demand_cut(table, cut)
    if not does_hang(table):
        raise Refused(("parts",))
    if net_of(table) is None:
        raise Refused(("net",))
