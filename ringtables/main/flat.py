"""Faces of nets, and opposite nets."""

from ringtables.base.bits import is_ascending, is_between, is_tuple_of, is_worded, lot_of, mask_of, masks_of, reduced
from ringtables.errors import InvalidOperation, Refused
from ringtables.main.bars import is_bar, net_or_bar
from ringtables.main.found import net_of
from ringtables.net.nets import Net, demand_net, is_net_of, pieces_of, star, table_of
from ringtables.table.tables import opposite, rows_of

_SHORT = 5


def are_faces(net, value):
    """Tell whether the value is lots that make all sums of the net's table, as few as can be, no line in three."""
    table = table_of(net)
    if not is_tuple_of(value, table.size) or not all([is_ascending(lot, table.many) for lot in value]):
        return False
    if max([len(knots) for knots in _stands(value, table.many)]) > 2:
        return False
    return reduced(masks_of(value)) == rows_of(table)


def outer(net, faces):
    """The sum of the faces."""
    _demand_faces(net, faces)
    return _outer(net, faces)


def faces_or_bar(net):
    """Faces of the net, or a bar of the opposite of its table."""
    told = net_or_bar(opposite(table_of(net)))
    return ("faces", _faces_by(told[1])) if told[0] == "net" else told


def is_faces_or_bar(net, value):
    """Tell whether the value is such faces, or such a bar, with its word."""
    table = table_of(net)
    if is_worded(value, "faces"):
        return are_faces(net, value[1])
    return is_worded(value, "bar") and is_bar(opposite(table), value[1])


def net_by_faces(net, faces):
    """The opposite net with a knot for each face, and a last one for the outer lot."""
    _demand_faces(net, faces)
    lots = faces + (_outer(net, faces),)
    return Net(len(lots), tuple([_ends(knots, len(faces)) for knots in _stands(lots, len(net.lines))]))


def faces_by(net, other):
    """The stars of an opposite net, without that of the least knot of each piece."""
    demand_net(net)
    demand_net(other)
    if not is_opposite(net, other):
        raise InvalidOperation("an opposite net is asked for")
    return _faces_by(other)


def is_opposite(net, value):
    """Tell whether the value is an opposite net."""
    return is_net_of(opposite(table_of(net)), value)


def opposite_net(net):
    """An opposite net."""
    found = net_of(opposite(table_of(net)))
    if found is None:
        raise Refused(("barred",))
    return found


def short_lot(net, faces):
    """The index of a face of at most five lines, or the number of the faces if the outer lot is so short."""
    _demand_faces(net, faces)
    _refuse_thin(net)
    return [k for k, lot in enumerate(faces + (_outer(net, faces),)) if len(lot) <= _SHORT][0]


def is_short_lot(net, faces, value):
    """Tell whether the value is such an index."""
    _demand_faces(net, faces)
    _refuse_thin(net)
    lots = faces + (_outer(net, faces),)
    return is_between(value, 0, len(faces)) and len(lots[value]) <= _SHORT


def _outer(net, faces):
    total = 0
    for lot in faces:
        total ^= mask_of(lot)
    return lot_of(total)


def _stands(lots, many):
    """For each line the indices of the lots in which it is."""
    return [tuple([k for k, lot in enumerate(lots) if line in lot]) for line in range(many)]


def _ends(knots, last):
    """The knots of a line in two lots, or in none."""
    return knots if knots else (last, last)


def _faces_by(other):
    knots = [knot for piece in pieces_of(other) for knot in piece[1:]]
    return tuple([star(other, knot) for knot in sorted(knots)])


def _demand_faces(net, faces):
    if not are_faces(net, faces):
        raise InvalidOperation("faces of the net are asked for")


def _refuse_thin(net):
    """Refuse a net in several pieces, and one with a star of two lines or fewer."""
    if len(pieces_of(net)) > 1:
        raise Refused(("pieces",))
    for knot in range(net.knots):
        if len(star(net, knot)) < 3:
            raise Refused(("star", knot))
