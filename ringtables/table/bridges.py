"""Bridges of cuts, their components and segments, and which of them agree."""

from ringtables.base.bits import hanging, is_ascending, is_between, is_tuple_of, lot_of, lots_of, mask_of, masks_of
from ringtables.base.bits import reduced, renumbered, within
from ringtables.errors import InvalidNumber, InvalidOperation
from ringtables.table.rings import demand_cut
from ringtables.table.tables import every_line, made, opposite_rows, rows_of


def bridges(table, cut):
    """The ascending tuple of the bridges of a cut: the parts of the table without its lines."""
    return lots_of(bridges_of(table, cut))


def component(table, cut, bridge):
    """The pair of the table in which all lines but those of a bridge and the cut are joined, and of these lines."""
    return joined_to(table, _demand_bridge(bridges_of(table, cut), bridge) | mask_of(cut))


def segments(table, cut, bridge):
    """The ascending tuple of the segments of a bridge, which share out the cut."""
    mask = _demand_bridge(bridges_of(table, cut), bridge)
    return lots_of(segment_masks(opposite_rows(table), mask_of(cut), mask))


def do_agree(table, cut, bridge, further):
    """Tell whether two bridges agree."""
    return len(_facing(table, cut, bridge, further)) > 0


def facing(table, cut, bridge, further):
    """A segment of the one bridge and one of the other that have together the cut; None if the bridges clash."""
    pairs = _facing(table, cut, bridge, further)
    return lots_of(pairs[0]) if pairs else None


def is_facing(table, cut, bridge, further, value):
    """Tell whether the value is such a pair, or None if there is none."""
    pairs = _facing(table, cut, bridge, further)
    if value is None:
        return not pairs
    if not is_tuple_of(value, 2) or not all([is_ascending(lot, table.many) for lot in value]):
        return False
    return tuple(masks_of(value)) in pairs


def clashes(table, cut):
    """The ascending tuple of the pairs of bridges that clash."""
    masks = bridges_of(table, cut)
    return clash_pairs(opposite_rows(table), mask_of(cut), masks)


def bridges_of(table, cut):
    """The masks of the bridges, ascending as lots."""
    demand_cut(table, cut)
    return bridge_masks(opposite_rows(table), every_line(table), mask_of(cut))


def joined_to(table, mask):
    """The pair of the table in which all lines but those of the mask are joined, and of what its lines were."""
    lines = lot_of(mask)
    return (made(len(lines), [renumbered(row, lines) for row in rows_of(table)]), lines)


# The functions from here on take the form of the opposite, by which leaving out is joining. So lines keep their bits
# when others are joined: the rows that lie within those that stay are the form.


def bridge_masks(others, lines, cut):
    """The bridges of a cut of a table with these lines."""
    # A table and its opposite have the same parts.
    return hanging(reduced([row & ~cut for row in others]), lines & ~cut)


def segment_masks(others, cut, bridge):
    """The segments of a bridge of the cut."""
    rows = within(others, cut | bridge)
    found = {}
    for line in lot_of(cut):
        # Two lines are a sum if each row has both or none.
        stands = tuple([row >> line & 1 for row in rows])
        found[stands] = found.get(stands, 0) | 1 << line
    return list(found.values())


def clash_pairs(others, cut, masks):
    """The ascending tuple of the pairs of indices of the bridges that clash."""
    rows = [segment_masks(others, cut, mask) for mask in masks]
    found = []
    for later, more in enumerate(rows):
        found += [(k, later) for k in range(later) if not _pairs_with_all(cut, rows[k], more)]
    return tuple(sorted(found))


def _pairs_with_all(cut, segs, more):
    """The pairs of a segment each that have together all lines of the cut."""
    return [(one, other) for one in segs for other in more if one | other == cut]


def _facing(table, cut, bridge, further):
    masks = bridges_of(table, cut)
    both = (_demand_bridge(masks, bridge), _demand_bridge(masks, further))
    if bridge == further:
        raise InvalidOperation("two bridges are asked for")
    rows = [segment_masks(opposite_rows(table), mask_of(cut), mask) for mask in both]
    return _pairs_with_all(mask_of(cut), rows[0], rows[1])


def _demand_bridge(masks, bridge):
    """The mask of the bridge with this index; InvalidNumber unless there is one."""
    if not is_between(bridge, 0, len(masks) - 1):
        raise InvalidNumber(bridge)
    return masks[bridge]
