"""Nets with poles, the knots 0 and 1: their ways and rims, and nets that do a list of wishes."""

from ringtables.base.bits import is_ascending, is_tuple_of, is_worded, masks_of
from ringtables.errors import InvalidLot, InvalidOperation, Refused, TooMany
from ringtables.main.bars import is_bar
from ringtables.main.found import is_net_or_stop, net_or_stop
from ringtables.net.nets import Net, demand_net, renamed, way_ends
from ringtables.wish.lists import MOST_CONTACTS, MOST_WISHES, contacts_of, demand_list, is_odd_or_pair, least_meeting
from ringtables.wish.lists import odd_or_pair, table_of_list

_POLES = (0, 1)


def ways(net):
    """The ascending tuple of all ways from pole to pole."""
    _demand_poles(net)
    found = []
    wave = [((0,), ())]
    while wave:
        fresh = []
        for knots, way in wave:
            for line, goal in _lines_on(net, knots):
                if goal == 1:
                    found.append(tuple(sorted(way + (line,))))
                else:
                    fresh.append((knots + (goal,), way + (line,)))
        wave = fresh
    return tuple(sorted(found))


def rims(net):
    """The ascending tuple of all least rims: the least lots that meet each way."""
    masks = masks_of(ways(net))
    return least_meeting(len(net.lines), masks)


def is_way(net, value):
    """Tell whether the value is a way from pole to pole."""
    _demand_poles(net)
    return is_ascending(value, len(net.lines)) and way_ends(net, value) == _POLES


def way_or_shore(net, shut):
    """A way of shut lines, or a shore whose rim has none of them."""
    _demand_shut(net, shut)
    told = {0: ()}
    wave = [0]
    while wave:
        fresh = []
        for knot in wave:
            for line, goal in _lines_on(net, (knot,)):
                if line in shut and goal not in told:
                    told[goal] = told[knot] + (line,)
                    fresh.append(goal)
        wave = fresh
    return ("way", tuple(sorted(told[1]))) if 1 in told else ("shore", tuple(sorted(told)))


def is_way_or_shore(net, shut, value):
    """Tell whether the value is such a way, or such a shore, with its word."""
    _demand_shut(net, shut)
    if is_worded(value, "way"):
        return is_way(net, value[1]) and all([line in shut for line in value[1]])
    if not is_worded(value, "shore") or not is_ascending(value[1], net.knots):
        return False
    shore = value[1]
    if 0 not in shore or 1 in shore:
        return False
    return all([(net.lines[line][0] in shore) == (net.lines[line][1] in shore) for line in shut])


def wishes_of(net):
    """The ways, which are a list if each line is on one."""
    found = ways(net)
    if not found:
        raise Refused(("apart",))
    for line in range(len(net.lines)):
        if not any([line in way for way in found]):
            raise Refused(("line", line))
    if len(found) > MOST_WISHES:
        raise TooMany(MOST_WISHES)
    return found


def with_pole_line(net):
    """The net with one line more, the last one, between the poles."""
    _demand_poles(net)
    return Net(net.knots, net.lines + (_POLES,))


def net_or_paper(wishes):
    """A net that does the list; a lot and a cut that meet evenly; or, of an odd list, a stop of its table."""
    told = odd_or_pair(wishes)
    if told[0] == "even":
        return told
    found = net_or_stop(table_of_list(wishes))
    return ("net", _with_poles(found[1])) if found[0] == "net" else ("barred", found[1:])


def is_net_or_paper(wishes, value):
    """Tell whether the value is such a net, such a pair, or a bar or a stop, with its word."""
    demand_list(wishes)
    if is_worded(value, "net"):
        return _does(value[1], wishes)
    if is_worded(value, "barred") and is_odd_or_pair(wishes, ("odd",)):
        table = table_of_list(wishes)
        is_stop = is_tuple_of(value[1], 2) and is_net_or_stop(table, ("stop",) + value[1])
        return is_stop or is_bar(table, value[1])
    return is_worded(value, "even", 3) and is_odd_or_pair(wishes, value)


def is_conducting(net, shut):
    """Tell whether some way is shut."""
    return way_or_shore(net, shut)[0] == "way"


def _lines_on(net, knots):
    """The lines from the last of the knots to further ones, with these."""
    pairs = [(line, sum(pair) - knots[-1]) for line, pair in enumerate(net.lines) if knots[-1] in pair]
    return [(line, goal) for line, goal in pairs if goal not in knots]


def _with_poles(net):
    """The net without its last line, whose ends become the poles."""
    names = {knot: pole for pole, knot in enumerate(net.lines[-1])}
    for knot in range(net.knots):
        if knot not in names:
            names[knot] = len(names)
    return Net(net.knots, renamed(net.lines[:-1], names))


def _does(value, wishes):
    """Tell whether the value is a net with a line for each contact, whose ways are the list."""
    if not isinstance(value, Net) or value.knots < 2 or len(value.lines) != contacts_of(wishes):
        return False
    return ways(value) == wishes


def _demand_poles(net):
    demand_net(net)
    _demand_few(net)


def _demand_few(net):
    if net.knots < 2:
        raise InvalidOperation("a net with poles has two knots at least")
    if len(net.lines) > MOST_CONTACTS:
        raise TooMany(MOST_CONTACTS)


def _demand_shut(net, shut):
    demand_net(net)
    if not is_ascending(shut, len(net.lines)):
        raise InvalidLot("an ascending tuple of lines of the net is asked for")
    _demand_few(net)
