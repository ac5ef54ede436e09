"""Sides of a cut for its bridges, or an odd row of bridges that clash."""

from ringtables.base.bits import is_ascending, is_between, is_tuple_of, is_worded, mask_of, merged
from ringtables.errors import InvalidOperation, TooMany
from ringtables.net.nets import shores, table_of
from ringtables.table.bridges import bridge_masks, bridges, bridges_of, clash_pairs, clashes, joined_to
from ringtables.table.rings import cuts, is_cut
from ringtables.table.tables import MOST_SUMS, demand_table, every_line, opposite_rows


def sides_or_row(table, cut):
    """Unlike sides for bridges that clash, or an odd row of bridges each of which clashes with the next one."""
    return told_sides(len(bridges(table, cut)), clashes(table, cut))


def is_sides_or_row(table, cut, value):
    """Tell whether the value is such sides, or such a row, with its word."""
    many = len(bridges(table, cut))
    pairs = clashes(table, cut)
    if is_worded(value, "sides") and is_tuple_of(value[1], many):
        bits = value[1]
        if not all([is_between(bit, 0, 1) for bit in bits]):
            return False
        return all([bits[one] != bits[other] for one, other in pairs])
    return is_worded(value, "row") and _is_odd_row(many, pairs, value[1])


def side_count(table, cut):
    """In how many ways sides can be told."""
    many = len(bridges(table, cut))
    pairs = clashes(table, cut)
    if told_sides(many, pairs)[0] == "row":
        return 0
    alone = [1 << bridge for bridge in range(many)]
    return 1 << len(merged(alone + [(1 << one) | (1 << other) for one, other in pairs]))


def is_even(table, cut):
    """Tell whether sides can be told."""
    return sides_or_row(table, cut)[0] == "sides"


def shore_sides(net, cut):
    """For each bridge 1 if it lies on the shore where the least line of the cut has its second end, else 0."""
    low, high = shores(net, cut)
    end = net.lines[cut[0]][1]
    far = low if end in low else high
    return tuple([1 if net.lines[bridge[0]][0] in far else 0 for bridge in bridges(table_of(net), cut)])


def kept(table, cut, some):
    """The pair of the table in which all lines but those of the cut and of some bridges are joined, and of these."""
    masks = bridges_of(table, cut)
    if not is_ascending(some, len(masks)):
        raise InvalidOperation("an ascending tuple of indices of bridges is asked for")
    return joined_to(table, mask_of(cut) | sum([masks[bridge] for bridge in some]))


def uneven(table):
    """A cut that is not even, and an odd row of its bridges; None if all cuts are even."""
    _demand_few_cuts(table)
    others = opposite_rows(table)
    for cut in cuts(table):
        masks = bridge_masks(others, every_line(table), mask_of(cut))
        told = told_sides(len(masks), clash_pairs(others, mask_of(cut), masks))
        if told[0] == "row":
            return (cut, told[1])
    return None


def is_uneven(table, value):
    """Tell whether the value is such a pair, or None if all cuts are even."""
    _demand_few_cuts(table)
    if value is None:
        return uneven(table) is None
    return is_tuple_of(value, 2) and is_cut_with_row(table, value[0], value[1])


def is_cut_with_row(table, cut, row):
    """Tell whether these are a cut of the table and an odd row of its bridges."""
    return is_cut(table, cut) and _is_odd_row(len(bridges(table, cut)), clashes(table, cut), row)


def told_sides(many, pairs):
    """Sides for so many bridges of which the pairs clash, or an odd row of them."""
    sides = {}
    for start in range(many):
        if start not in sides:
            row = _row_from(start, pairs, sides)
            if row:
                return ("row", row)
    return ("sides", tuple([sides[bridge] for bridge in range(many)]))


def _row_from(start, pairs, sides):
    """Tell sides for all bridges to which clashes lead from the start; an odd row if two on one side clash, else ()."""
    sides[start] = 0
    ways = {start: (start,)}
    wave = [start]
    while wave:
        fresh = []
        for one in wave:
            for other in _clashing(pairs, one):
                if other not in ways:
                    sides[other] = 1 - sides[one]
                    ways[other] = (other,) + ways[one]
                    fresh.append(other)
                elif sides[other] == sides[one]:
                    return _row_of_ways(ways[one], ways[other])
        wave = fresh
    return ()


def _clashing(pairs, bridge):
    """The bridges that clash with this one."""
    return [one + other - bridge for one, other in pairs if bridge in (one, other)]


def _row_of_ways(way, other):
    """The ways back from two bridges that clash, up to where they meet, as one row."""
    ahead = [bridge for bridge in way if bridge not in other]
    behind = [bridge for bridge in other if bridge not in way]
    return tuple(ahead + [way[len(ahead)]] + behind[::-1])


def _is_odd_row(many, pairs, value):
    """Tell whether the value is an odd row of these bridges."""
    if not isinstance(value, tuple) or not all([is_between(bridge, 0, many - 1) for bridge in value]):
        return False
    if len(set(value)) != len(value) or len(value) & 1 == 0:
        return False
    # A row of one bridge would have to clash with itself: no pair tells so.
    return all([(one, other) in pairs or (other, one) in pairs for one, other in zip(value, value[1:] + value[:1])])


def _demand_few_cuts(table):
    demand_table(table)
    if 1 << (table.many - table.size) > MOST_SUMS:
        raise TooMany(MOST_SUMS)
