"""A net of a table, or a stop: a way down to a table that shows why there is none."""

from ringtables.base.bits import hanging, is_between, is_tuple_of, is_worded, lot_of, lots_of, mask_of, renumbered
from ringtables.base.bits import within
from ringtables.errors import InvalidOperation, Refused
from ringtables.net.nets import MOST_KNOTS, Net, is_net_of
from ringtables.table.bridges import bridge_masks, bridges, bridges_of, clash_pairs, component, joined_to
from ringtables.table.parts import does_hang, part_table, parts
from ringtables.table.rings import is_cut
from ringtables.table.sides import is_cut_with_row, sides_or_row, told_sides
from ringtables.table.stars import demand_one_part, is_three, net_or_three
from ringtables.table.tables import demand_table, every_line, opposite_rows


def nets_glued(table, cut, nets):
    """A net of the table, made of nets for the components of the cut's bridges."""
    masks = bridges_of(table, cut)
    if not is_tuple_of(nets, len(masks)):
        raise InvalidOperation("a tuple of a net for each component is asked for")
    found = []
    for mask, net in zip(masks, nets):
        told, lines = joined_to(table, mask | mask_of(cut))
        if not is_net_of(told, net):
            raise InvalidOperation("nets of the components are asked for")
        found.append(dict(zip(lines, net.lines)))
    demand_one_part(table)
    told = sides_or_row(table, cut)
    if told[0] == "row":
        raise Refused(("clash",))
    return _made_net(_glued(cut, told[1], found))


def net_of(table):
    """A net of the table, None if there is none."""
    told = net_or_stop(table)
    return told[1] if told[0] == "net" else None


def net_or_stop(table):
    """A net of the table, or a stop."""
    demand_table(table)
    told = ends_or_stop(every_line(table), opposite_rows(table))
    return ("net", _made_net(told[1])) if told[0] == "net" else told


def is_net_or_stop(table, value):
    """Tell whether the value is such a net, or such a stop, with its word."""
    demand_table(table)
    if is_worded(value, "net"):
        return is_net_of(table, value[1])
    if not is_worded(value, "stop", 3):
        return False
    told = _followed(table, value[1])
    return told is not None and does_hang(told[0]) and _is_end(told[0], value[2])


def behind_steps(table, steps):
    """The pair of the table behind steps to parts and components, and of what its lines were."""
    demand_table(table)
    told = _followed(table, steps)
    if told is None:
        raise InvalidOperation("steps to parts, and to components of bridges, are asked for")
    return told


def ends_or_stop(lines, others):
    """The knots at the ends of each line, or a stop, of a table that has these lines, told by its opposite's form."""
    masks = hanging(others, lines)
    if len(masks) == 1:
        return _of_whole(lines, others)
    found = []
    for k, mask in enumerate(masks):
        told = _of_whole(mask, within(others, mask))
        if told[0] == "stop":
            return _stop_behind(("part", k), told)
        found.append(told[1])
    return ("net", _beside(found))


def _of_whole(lines, others):
    """What `ends_or_stop` tells, of a table that hangs together."""
    if not others:
        return ("net", {line: (0, 0) for line in lot_of(lines)})
    for cut in others:
        masks = bridge_masks(others, lines, cut)
        if len(masks) > 1:
            return _of_components(lines, others, cut, masks)
    lot = lot_of(lines)
    told = net_or_three(lots_of([renumbered(cut, lot) for cut in others]), len(lot))
    if told[0] == "three":
        return ("stop", (), told)
    return ("net", dict(zip(lot, told[1].lines)))


def _of_components(lines, others, cut, masks):
    """What `ends_or_stop` tells, by the components of a cut with several bridges."""
    lot = lot_of(renumbered(cut, lot_of(lines)))
    sides = told_sides(len(masks), clash_pairs(others, cut, masks))
    if sides[0] == "row":
        return ("stop", (), ("clash", lot, sides[1]))
    found = []
    for k, mask in enumerate(masks):
        told = _of_whole(mask | cut, within(others, mask | cut))
        if told[0] == "stop":
            return _stop_behind(("bridge", lot, k), told)
        found.append(told[1])
    return ("net", _glued(lot_of(cut), sides[1], found))


def _stop_behind(step, told):
    return ("stop", (step,) + told[1], told[2])


def _beside(found):
    """The ends of all lines, the first knots of all nets being one."""
    ends = {}
    shift = 0
    for net in found:
        for line, pair in net.items():
            ends[line] = tuple([knot + shift if knot else 0 for knot in pair])
        shift += max([pair[1] for pair in net.values()])
    return ends


def _glued(cut, sides, found):
    """The ends of all lines, by those of the lines of the components on both sides of the cut.

    A half is a pair of dicts: the ends of the lines of bridges, and the feet, where the lines of the cut end.
    """
    # A side without bridges is one knot, named by its number; each bridge's knots have names of their own.
    halves = [({}, {line: side for line in cut}) for side in (0, 1)]
    for k, side in enumerate(sides):
        halves[side] = _put_in(halves[side], _opened(cut, found[k], 2 + k * MOST_KNOTS))
    ends, feet = halves[0]
    more, others = halves[1]
    joining = {line: (feet[line], others[line]) for line in cut}
    return _named_anew({**ends, **more, **joining})


def _opened(cut, net, shift):
    """The half that the net of a component is without the knot whose star is the cut."""
    hub = [knot for knot in net[cut[0]] if all([knot in net[line] for line in cut])][0]
    feet = {line: sum(net[line]) - hub + shift for line in cut}
    return ({line: (pair[0] + shift, pair[1] + shift) for line, pair in net.items() if line not in feet}, feet)


def _put_in(half, fresh):
    """The half with that of one more bridge put in at a knot; if the bridges agree, there is one where this can be."""
    for knot in _knots(half):
        places = _places(half, knot, fresh[1])
        if places is not None:
            return _put_at(half, knot, fresh, places)
    return None


def _put_at(half, knot, fresh, places):
    """The half in which the knot gives way to the fresh half, and its branches go to their places."""
    ends, feet = half
    more, goals = fresh
    found = {}
    for line, (one, other) in ends.items():
        found[line] = (places[other] if one == knot else one, places[one] if other == knot else other)
    return ({**more, **found}, {line: goals[line] if foot == knot else foot for line, foot in feet.items()})


def _places(half, knot, goals):
    """For each other knot the goal of its branch; None if lines of the cut that end in one branch have unlike goals."""
    branches = _branches(half, knot)
    found = {}
    for line, foot in half[1].items():
        if foot != knot:
            branch = branches[foot]
            if branch in found and found[branch] != goals[line]:
                return None
            found[branch] = goals[line]
    return {other: found[branch] for other, branch in branches.items()}


def _branches(half, knot):
    """For each other knot a knot that tells its branch: knots that hang together without the one have the same."""
    found = {other: other for other in _knots(half) if other != knot}
    for one, other in half[0].values():
        if knot not in (one, other):
            gone, stays = found[one], found[other]
            found = {end: stays if branch == gone else branch for end, branch in found.items()}
    return found


def _knots(half):
    ends, feet = half
    return sorted(set(list(feet.values()) + [knot for pair in ends.values() for knot in pair]))


def _named_anew(ends):
    """The ends of the lines, knots named by 0, 1, .., the lesser one ahead."""
    knots = sorted(set([knot for pair in ends.values() for knot in pair]))
    names = {knot: k for k, knot in enumerate(knots)}
    return {line: tuple(sorted([names[one], names[other]])) for line, (one, other) in ends.items()}


def _made_net(ends):
    lines = tuple([ends[line] for line in sorted(ends)])
    return Net(1 + max([pair[1] for pair in lines]), lines)


def _followed(table, steps):
    """The table behind the steps, and what its lines were; None unless these are steps."""
    if not isinstance(steps, tuple):
        return None
    told = joined_to(table, every_line(table))
    for step in steps:
        behind = _behind(told[0], step)
        if behind is None:
            return None
        told = (behind[0], tuple([told[1][line] for line in behind[1]]))
    return told


def _behind(table, step):
    """The table behind one step, and what its lines were; None unless it is a step of the table."""
    if is_worded(step, "part"):
        many = len(parts(table))
        return part_table(table, step[1]) if many > 1 and is_between(step[1], 0, many - 1) else None
    if is_worded(step, "bridge", 3) and is_cut(table, step[1]) and does_hang(table):
        many = len(bridges(table, step[1]))
        return component(table, step[1], step[2]) if is_between(step[2], 0, many - 1) else None
    return None


def _is_end(table, value):
    """Tell whether the value is the end of a stop that comes to this table."""
    if is_worded(value, "clash", 3):
        return is_cut_with_row(table, value[1], value[2])
    return is_worded(value, "three", 3) and is_three(table, value[1], value[2])
