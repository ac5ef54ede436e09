"""Cuts that must be stars, and the net that they make."""

from ringtables.base.bits import is_between, is_tuple_of, is_worded, mask_of
from ringtables.errors import InvalidOperation, Refused
from ringtables.net.nets import Net, demand_net, is_net_of, star
from ringtables.table.bridges import bridge_masks, bridges
from ringtables.table.parts import does_hang
from ringtables.table.rings import cuts, demand_cut, is_cut
from ringtables.table.tables import demand_table, every_line, opposite, opposite_rows


def is_star_cut(table, cut):
    """Tell whether the cut has one bridge at most."""
    demand_cut(table, cut)
    demand_one_part(table)
    return _is_star(table, cut)


def told_cuts(table):
    """The cuts in the form of the opposite."""
    demand_table(table)
    demand_one_part(table)
    return opposite(table).form


def star_net(table):
    """The net of which the told cuts, all of them star cuts, are stars."""
    told = told_cuts(table)
    for cut in told:
        if not _is_star(table, cut):
            raise Refused(("bridges", cut))
    found = net_or_three(told, table.many)
    if found[0] == "three":
        raise Refused(("three", found[1]))
    return found[1]


def net_three_or_cut(table):
    """A net of the table, three star cuts with one line, or a cut with several bridges."""
    told = told_cuts(table)
    for cut in told:
        if not _is_star(table, cut):
            return ("cut", cut)
    return net_or_three(told, table.many)


def is_net_three_or_cut(table, value):
    """Tell whether the value is one of these, with its word."""
    demand_table(table)
    demand_one_part(table)
    if is_worded(value, "net"):
        return is_net_of(table, value[1])
    if is_worded(value, "three", 3):
        return is_three(table, value[1], value[2])
    return is_worded(value, "cut") and is_cut(table, value[1]) and not _is_star(table, value[1])


def star_cuts(table):
    """The ascending tuple of all star cuts."""
    demand_table(table)
    demand_one_part(table)
    others = opposite_rows(table)
    lines = every_line(table)
    return tuple([cut for cut in cuts(table) if len(bridge_masks(others, lines, mask_of(cut))) < 2])


def star_knots(table, net):
    """For each knot of a net of the table its star if this is a star cut, else None."""
    demand_table(table)
    demand_net(net)
    if not is_net_of(table, net):
        raise InvalidOperation("a net of the table is asked for")
    demand_one_part(table)
    stars = [star(net, knot) for knot in range(net.knots)]
    return tuple([lot if is_cut(table, lot) and _is_star(table, lot) else None for lot in stars])


def is_three(table, line, value):
    """Tell whether the line is one of the table, and the value an ascending tuple of three star cuts with it."""
    if not is_between(line, 0, table.many - 1) or not is_tuple_of(value, 3):
        return False
    if not all([is_cut(table, cut) and _is_star(table, cut) and line in cut for cut in value]):
        return False
    return value[0] < value[1] < value[2]


def net_or_three(told, many):
    """The net with a knot for each of the told cuts, and one more; or three of them with the least line that has so."""
    ends = [tuple([k for k, cut in enumerate(told) if line in cut]) for line in range(many)]
    for line, found in enumerate(ends):
        if len(found) > 2:
            return ("three", line, tuple([told[k] for k in found[:3]]))
    return ("net", Net(len(told) + 1, tuple([pair if len(pair) == 2 else pair + (len(told),) for pair in ends])))


def demand_one_part(table):
    """Raise Refused unless the table has two lines or more, and hangs together."""
    if table.many == 1 or not does_hang(table):
        raise Refused(("parts",))


def _is_star(table, cut):
    return len(bridges(table, cut)) < 2
