"""A bench that keeps a table, led by deeds, and nets led along."""

from ringtables.base.bits import is_ascending, is_worded, mask_of
from ringtables.errors import InvalidOperation, NothingToUndo, Refused, TooMany, UnknownName
from ringtables.main.found import net_of
from ringtables.main.kinds import KINDS, kind, kind_by
from ringtables.net.nets import Net, is_net_of, net_join, net_out, table_of
from ringtables.table.lesser import is_step, lengthened, lesser, widened
from ringtables.table.parts import beside
from ringtables.table.tables import Table, demand_table, is_order, made, opposite, relined, rows_of

MOST_DEEDS = 200


class Bench:
    """A bench keeps a table; deeds lead it on, and can be undone and done again."""

    def __init__(self, table):
        demand_table(table)
        self._tables = [table]
        self._deeds = []
        self._place = 0

    @property
    def table(self):
        """The table that stands."""
        return self._tables[self._place]

    @property
    def deeds(self):
        """The tuple of the deeds done and not undone."""
        return tuple(self._deeds[:self._place])

    def __str__(self):
        return f"bench of {self.table.many} lines, size {self.table.size}, {self._place} deeds"

    def do(self, deed):
        """Do a deed; what was undone can't be done again then."""
        table = self._tables[self._place]
        if not _is_deed(table, deed):
            raise InvalidOperation("a deed that fits is asked for")
        if deed[0] in ("out", "join") and table.many == 1:
            raise Refused(("nothing",))
        if self._place == MOST_DEEDS:
            raise TooMany(MOST_DEEDS)
        # This comes ahead of all changes, as there may be no room for more lines.
        fresh = _led(table, deed)
        self._tables = self._tables[:self._place + 1] + [fresh]
        self._deeds = self._deeds[:self._place] + [deed]
        self._place += 1

    def undo(self):
        """Undo the last deed that is not undone."""
        if self._place == 0:
            raise NothingToUndo(0)
        self._place -= 1

    def again(self):
        """Do the deed again that was undone last."""
        if self._place == len(self._deeds):
            raise NothingToUndo(self._place)
        self._place += 1

    def kind(self):
        """The kind of the table that stands."""
        return kind(self._tables[self._place])

    def net(self):
        """A net of the table that stands, None if there is none."""
        return net_of(self._tables[self._place])


def led_net(net, deed):
    """The net led by a deed "out", "join" or "lines"."""
    table = table_of(net)
    if not (is_step(table.many, deed) or is_worded(deed, "lines") and is_order(table.many, deed[1])):
        raise InvalidOperation("a deed out, join or lines that fits the net's table is asked for")
    word, told = deed
    if word == "lines":
        return Net(net.knots, tuple([net.lines[line] for line in told]))
    return net_out(net, told) if word == "out" else net_join(net, told)


def is_led_net(net, deed, value):
    """Tell whether the value is a net with the same table as the led one."""
    return is_net_of(table_of(led_net(net, deed)), value)


def kind_above(one, other):
    """The lowest kind that is, or is above, each of two kinds."""
    for word in (one, other):
        if word not in KINDS:
            raise UnknownName(word)
    # Parts of two kinds make up a table of just this one.
    return kind_by((one, other))


def _is_deed(table, value):
    """Tell whether the value is a deed that fits the table."""
    if is_worded(value, "wide") or is_worded(value, "sum"):
        return is_ascending(value[1], table.many)
    if is_worded(value, "long"):
        return is_ascending(value[1], table.size)
    if is_worded(value, "lines"):
        return is_order(table.many, value[1])
    if is_worded(value, "beside"):
        return isinstance(value[1], Table)
    return is_worded(value, "opposite", 1) or is_step(table.many, value)


def _led(table, deed):
    """The table behind a deed."""
    word = deed[0]
    if word == "opposite":
        return opposite(table)
    told = deed[1]
    if word == "wide":
        return widened(table, told)
    if word == "long":
        return lengthened(table, told)
    if word == "sum":
        return made(table.many, rows_of(table) + [mask_of(told)])
    if word == "lines":
        return relined(table, told)
    return beside(table, told) if word == "beside" else lesser(table, deed)
