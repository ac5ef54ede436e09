"""The five kinds of tables, each with its paper."""

from ringtables.base.bits import is_between, is_worded
from ringtables.errors import InvalidOperation
from ringtables.main.bars import is_bar, net_or_bar
from ringtables.main.found import net_of
from ringtables.net.nets import is_net_of
from ringtables.sign.signs import MOST_SIGNED, are_right_signs, right_signs, signs_or_bar
from ringtables.table.parts import part_table, parts
from ringtables.table.tables import demand_table, opposite

KINDS = ("flat", "net", "opposite", "signed", "bare")


def kind(table):
    """The kind of the table."""
    net = net_of(table)
    other = net_of(opposite(table))
    if net is not None:
        return "net" if other is None else "flat"
    if other is not None:
        return "opposite"
    return "bare" if right_signs(table) is None else "signed"


def kind_paper(table):
    """A paper that shows the kind of the table, and begins with its word."""
    one = net_or_bar(table)
    other = net_or_bar(opposite(table))
    if one[0] == "net":
        return ("flat" if other[0] == "net" else "net", one[1], other[1])
    if other[0] == "net":
        return ("opposite", one[1], other[1])
    told = signs_or_bar(table)
    return ("signed", told[1], one[1], other[1]) if told[0] == "signs" else ("bare", told)


def kinds_of_parts(table):
    """The kinds of the tables of all parts."""
    return tuple([kind(part_table(table, part)[0]) for part in range(len(parts(table)))])


def is_kind_paper(table, value):
    """Tell whether the value is a paper of the table's kind."""
    demand_table(table)
    if is_worded(value, "flat", 3):
        return is_net_of(table, value[1]) and is_net_of(opposite(table), value[2])
    if is_worded(value, "net", 3):
        return is_net_of(table, value[1]) and is_bar(opposite(table), value[2])
    if is_worded(value, "opposite", 3):
        return is_bar(table, value[1]) and is_net_of(opposite(table), value[2])
    if is_worded(value, "signed", 4) and table.many <= MOST_SIGNED:
        has_bars = is_bar(table, value[2]) and is_bar(opposite(table), value[3])
        return has_bars and are_right_signs(table, value[1])
    return is_worded(value, "bare") and is_bar(table, value[1]) and value[1][0] in ("fours", "seven")


def kind_by(words):
    """The kind of a table whose parts have these kinds."""
    if not isinstance(words, tuple) or not is_between(len(words), 1, 24) or not all([word in KINDS for word in words]):
        raise InvalidOperation("a tuple of 1 to 24 kinds is asked for")
    if "bare" in words:
        return "bare"
    if "signed" in words or "net" in words and "opposite" in words:
        return "signed"
    return "net" if "net" in words else "opposite" if "opposite" in words else "flat"


def flat_or_bar(table):
    """Nets of the table and its opposite, or a bar of one of both."""
    one = net_or_bar(table)
    if one[0] == "bar":
        return ("table", one[1])
    other = net_or_bar(opposite(table))
    return ("opposite", other[1]) if other[0] == "bar" else ("flat", one[1], other[1])


def is_flat_or_bar(table, value):
    """Tell whether the value is such nets, or such a bar, with its word."""
    demand_table(table)
    if is_worded(value, "flat", 3):
        return is_kind_paper(table, value)
    if is_worded(value, "table"):
        return is_bar(table, value[1])
    return is_worded(value, "opposite") and is_bar(opposite(table), value[1])
