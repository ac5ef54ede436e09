"""Nets of knots and lines, their tables, pieces, walks and shores."""

from ringtables.base.bits import is_ascending, is_between, is_least, is_tuple_of, is_whole, kernel, lot_of
from ringtables.base.bits import lots_of, mask_of, merged, reduced
from ringtables.errors import InvalidLot, InvalidNet, InvalidNumber, InvalidOperation, Refused, TooMany
from ringtables.table.tables import demand_table, made, opposite_rows, rows_of

MOST_KNOTS = 25
MOST_LINES = 24


class Net:
    """A net of 1 to 25 knots and a tuple of 1 to 24 lines (a, b), knots with a not above b."""

    def __init__(self, knots, lines):
        if not is_between(knots, 1, MOST_KNOTS):
            raise InvalidNet("a net has 1 to 25 knots")
        if not _are_lines(knots, lines):
            raise InvalidNet("a net has a tuple of 1 to 24 lines, ascending pairs of its knots")
        self._knots = knots
        self._lines = lines

    @property
    def knots(self):
        """How many knots the net has."""
        return self._knots

    @property
    def lines(self):
        """The pairs of knots between which the lines are."""
        return self._lines

    def __eq__(self, value):
        return isinstance(value, Net) and self._knots == value._knots and self._lines == value._lines

    def __str__(self):
        return f"net of {self._knots} knots, {len(self._lines)} lines"


def table_of(net):
    """The table whose sums are the lots with an even number of line ends at each knot."""
    demand_net(net)
    stars = [_star_mask(net, knot) for knot in range(net.knots)]
    return made(len(net.lines), kernel(len(net.lines), reduced(stars)))


def is_net_of(table, value):
    """Tell whether the value is a net with this table."""
    demand_table(table)
    return isinstance(value, Net) and table_of(value) == table


def pieces_of(net):
    """The ascending tuple of the lots of knots that hang together."""
    demand_net(net)
    return _pieces(net.knots, net.lines)


def star(net, knot):
    """The lot of the lines at the knot, other than loops."""
    demand_net(net)
    if not is_between(knot, 0, net.knots - 1):
        raise InvalidNumber(knot)
    return lot_of(_star_mask(net, knot))


def walk_of(net, ring):
    """The lines of a ring, one behind the other as one walks."""
    demand_net(net)
    _demand_ring(net, ring)
    walk = [ring[0]]
    knot = net.lines[ring[0]][1]
    while len(walk) < len(ring):
        line = [further for further in ring if further not in walk and knot in net.lines[further]][0]
        walk.append(line)
        knot = _further_end(net.lines[line], knot)
    return tuple(walk)


def is_walk(net, ring, value):
    """Tell whether the value is a walk of the ring."""
    demand_net(net)
    _demand_ring(net, ring)
    if not is_tuple_of(value, len(ring)) or not all([is_whole(line) for line in value]):
        return False
    if sorted(value) != list(ring):
        return False
    return any([_does_come_back(net, value, knot) for knot in net.lines[value[0]]])


def shores(net, cut):
    """The two lots of knots that the cut parts, the one with the least knot ahead."""
    demand_net(net)
    _demand_lot(net, cut)
    if not is_least(opposite_rows(table_of(net)), mask_of(cut)):
        raise InvalidOperation("a cut of the net's table is asked for")
    rest = [pair for line, pair in enumerate(net.lines) if line not in cut]
    return tuple([piece for piece in _pieces(net.knots, rest) if _has_one_of(piece, net.lines[cut[0]])])


def net_out(net, line):
    """The net without the line."""
    demand_net(net)
    demand_net_line(net, line)
    _refuse_only_line(net)
    return Net(net.knots, _others(net, line))


def net_join(net, line):
    """The net in which the line is joined: it goes, and its knots become one."""
    demand_net(net)
    demand_net_line(net, line)
    _refuse_only_line(net)
    low, high = net.lines[line]
    if low == high:
        return Net(net.knots, _others(net, line))
    names = [knot if knot < high else knot - 1 for knot in range(net.knots)]
    names[high] = low
    return Net(net.knots - 1, renamed(_others(net, line), names))


def net_beside(one, other):
    """The net of both, knots and lines of the second one counted on."""
    demand_net(one)
    demand_net(other)
    demand_room(one.knots + other.knots, len(one.lines) + len(other.lines))
    names = [one.knots + knot for knot in range(other.knots)]
    return Net(one.knots + other.knots, one.lines + renamed(other.lines, names))


def net_tied(one, line, other, further, side):
    """The net of both tied at a line of each, first end to first end for side 0, to second end for side 1."""
    demand_net(one)
    demand_net_line(one, line)
    demand_net(other)
    demand_net_line(other, further)
    if not is_between(side, 0, 1):
        raise InvalidNumber(side)
    ends = other.lines[further]
    if _is_loop(one.lines[line]) or _is_loop(ends):
        raise Refused(("loop",))
    lines = _others(one, line)
    more = _others(other, further)
    if not lines and not more:
        raise Refused(("nothing",))
    demand_room(one.knots + other.knots - 2, len(lines) + len(more))
    names = {ends[0]: one.lines[line][side], ends[1]: one.lines[line][1 - side]}
    for knot in range(other.knots):
        if knot not in names:
            names[knot] = one.knots + len(names) - 2
    return Net(one.knots + other.knots - 2, lines + renamed(more, names))


def one_piece(net):
    """A net in one piece with the same table: the least knots of all pieces become one."""
    demand_net(net)
    names = {}
    for piece in _pieces(net.knots, net.lines):
        names[piece[0]] = 0
    glued = len(names)
    for knot in range(net.knots):
        if knot not in names:
            names[knot] = len(names) - glued + 1
    return Net(net.knots - glued + 1, renamed(net.lines, names))


def way_ends(net, lot):
    """The ascending pair of the knots at the ends of a way with just these lines; None if they are no way."""
    places = [knot for line in lot for knot in net.lines[line]]
    ends = [knot for knot in sorted(set(places)) if places.count(knot) == 1]
    if len(ends) != 2:
        return None
    knot = ends[0]
    left = list(lot)
    while knot != ends[1]:
        near = [line for line in left if knot in net.lines[line]]
        # With one line only to go on by, no knot is met twice.
        if len(near) != 1:
            return None
        left.remove(near[0])
        knot = _further_end(net.lines[near[0]], knot)
    return None if left else tuple(ends)


def renamed(lines, names):
    """The lines between the knots' new names, the lesser one ahead."""
    return tuple([tuple(sorted([names[low], names[high]])) for low, high in lines])


def demand_net(net):
    """Raise InvalidNet unless this is a net."""
    if not isinstance(net, Net):
        raise InvalidNet("a net is asked for")


def demand_net_line(net, line):
    """Raise InvalidNumber unless this is a line of the net."""
    if not is_between(line, 0, len(net.lines) - 1):
        raise InvalidNumber(line)


def demand_room(knots, lines):
    """Raise TooMany if a net has no room for so many lines, or so many knots."""
    if lines > MOST_LINES:
        raise TooMany(MOST_LINES)
    if knots > MOST_KNOTS:
        raise TooMany(MOST_KNOTS)


def _are_lines(knots, lines):
    if not isinstance(lines, tuple) or not 1 <= len(lines) <= MOST_LINES:
        return False
    return all([_is_line(knots, pair) for pair in lines])


def _is_line(knots, pair):
    if not is_tuple_of(pair, 2) or not all([is_between(knot, 0, knots - 1) for knot in pair]):
        return False
    return pair[0] <= pair[1]


def _is_loop(pair):
    return pair[0] == pair[1]


def _star_mask(net, knot):
    return mask_of([line for line, pair in enumerate(net.lines) if knot in pair and not _is_loop(pair)])


def _pieces(knots, lines):
    alone = [1 << knot for knot in range(knots)]
    return lots_of(merged(alone + [(1 << low) | (1 << high) for low, high in lines]))


def _further_end(pair, knot):
    return pair[0] + pair[1] - knot


def _does_come_back(net, walk, start):
    """Tell whether the lines, one behind the other, lead from the start to it."""
    knot = start
    for line in walk:
        if knot not in net.lines[line]:
            return False
        knot = _further_end(net.lines[line], knot)
    # Each knot of a ring has just two ends of its lines, so none was met twice.
    return knot == start


def _has_one_of(piece, pair):
    return pair[0] in piece or pair[1] in piece


def _others(net, line):
    return net.lines[:line] + net.lines[line + 1:]


def _refuse_only_line(net):
    if len(net.lines) == 1:
        raise Refused(("nothing",))


def _demand_lot(net, lot):
    if not is_ascending(lot, len(net.lines)):
        raise InvalidLot("a lot of lines of the net is asked for")


def _demand_ring(net, ring):
    _demand_lot(net, ring)
    if not is_least(rows_of(table_of(net)), mask_of(ring)):
        raise InvalidOperation("a ring of the net's table is asked for")
