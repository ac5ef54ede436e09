"""Bars: ways down to one of the four told tables, which no net has."""

from ringtables.base.bits import is_tuple_of, is_worded, lot_of, mask_of, masks_of, reduced, within
from ringtables.errors import InvalidOperation, Refused, UnknownName
from ringtables.main.found import behind_steps, ends_or_stop, net_of, net_or_stop
from ringtables.net.nets import is_net_of
from ringtables.table.bridges import bridges_of
from ringtables.table.lesser import behind, followed, lesser_by, steps_for
from ringtables.table.tables import demand_table, every_line, is_order, made, opposite_rows, rows_of

WORDS = ("five", "fours", "seven", "six")

# For "five" and "six" these are stars of knots, which make the opposites of the nets' tables.
_TOLD = {
    "five": (10, ((0, 1, 2, 3), (0, 4, 5, 6), (1, 4, 7, 8), (2, 5, 7, 9))),
    "fours": (7, ((0, 3, 5, 6), (1, 3, 4, 5), (2, 4, 5, 6))),
    "seven": (7, ((0, 1, 3), (1, 2, 4), (2, 3, 5), (3, 4, 6))),
    "six": (9, ((0, 1, 2), (3, 4, 5), (6, 7, 8), (0, 3, 6), (1, 4, 7))),
}
# So many names at most lead a told table to itself.
_MOST_NAMES = 168

_CHANGED = {"out": "join", "join": "out", "seven": "fours", "fours": "seven"}


def told_table(word):
    """The told table."""
    if word not in WORDS:
        raise UnknownName(word)
    many, lots = _TOLD[word]
    return made(many, masks_of(lots))


def word_of(table):
    """The word of the told table that some names lead to the table, None if there is none."""
    demand_table(table)
    for word in WORDS:
        if _namings(table, word, 1):
            return word
    return None


def names_for(table, word):
    """Names that lead the told table to the table, None if there are none."""
    demand_table(table)
    found = _namings(table, word, 1)
    return found[0] if found else None


def are_names(table, word, value):
    """Tell whether the value is such names."""
    demand_table(table)
    told = told_table(word)
    if told.many != table.many or not is_order(table.many, value):
        return False
    return reduced([mask_of([value[line] for line in lot]) for lot in told.form]) == rows_of(table)


def name_count(table, word):
    """How many names lead the told table to the table."""
    demand_table(table)
    return len(_namings(table, word, _MOST_NAMES))


def is_bar(table, value):
    """Tell whether the value is a bar of the table."""
    demand_table(table)
    if not is_tuple_of(value, 3) or value[0] not in WORDS or followed(table, value[1]) is None:
        return False
    word, steps, names = value
    return are_names(behind(table, steps), word, names)


def net_or_bar(table):
    """A net of the table, or a bar."""
    told = net_or_stop(table)
    return told if told[0] == "net" else ("bar", least_bar(table, _ground(table, told[1], told[2]), _has_stop))


def is_net_or_bar(table, value):
    """Tell whether the value is such a net, or such a bar, with its word."""
    demand_table(table)
    if is_worded(value, "net"):
        return is_net_of(table, value[1])
    return is_worded(value, "bar") and is_bar(table, value[1])


def is_least(table):
    """Tell whether the table is no net's, but each table by one step is."""
    return word_of(table) is not None


def least_steps(table):
    """Steps behind which the table is least, None for a net's table."""
    told = net_or_bar(table)
    return None if told[0] == "net" else told[1][1]


def are_least_steps(table, value):
    """Tell whether the value is such steps, or None for a net's table."""
    demand_table(table)
    if value is None:
        return net_of(table) is not None
    return followed(table, value) is not None and is_least(behind(table, value))


def opposite_bar(table, bar):
    """The bar of the opposite: out and join, seven and fours change places."""
    if not is_bar(table, bar):
        raise InvalidOperation("a bar of the table is asked for")
    word, steps, names = bar
    if word not in _CHANGED:
        raise Refused((word,))
    return (_CHANGED[word], tuple([(_CHANGED[step], line) for step, line in steps]), names)


def least_bar(table, ground, does_bar):
    """The bar of a table in which all lines beyond the ground can be joined.

    `does_bar` is asked of the lines that stay, and of the form of the opposite that they have then. If neither way to
    take a line off lets it be, this is so also when further lines are gone: so each line's turn comes once.
    """
    lines = ground
    others = within(opposite_rows(table), ground)
    outs = []
    for line in lot_of(ground):
        rest = lines & ~(1 << line)
        without = reduced([row & rest for row in others])
        joined = within(others, rest)
        if does_bar(rest, without):
            outs.append(line)
            lines, others = rest, without
        elif does_bar(rest, joined):
            lines, others = rest, joined
    joins = [line for line in lot_of(every_line(table) & ~lines) if line not in outs]
    return _bar_by(table, tuple(outs), tuple(joins))


def _bar_by(table, outs, joins):
    told = lesser_by(table, outs, joins)
    word = word_of(told)
    return (word, steps_for(table, outs, joins), names_for(told, word))


def _ground(table, steps, end):
    """The mask of the lines that a stop needs: if all others are joined, the table is no net's either."""
    told, lines = behind_steps(table, steps)
    if end[0] == "three":
        return mask_of(lines)
    masks = bridges_of(told, end[1])
    needed = lot_of(mask_of(end[1]) | sum([masks[bridge] for bridge in end[2]]))
    return mask_of([lines[line] for line in needed])


def _has_stop(lines, others):
    return ends_or_stop(lines, others)[0] == "stop"


def _namings(table, word, most):
    """At most so many of the names that lead the told table to the table."""
    told = told_table(word)
    if (told.many, told.size) != (table.many, table.size):
        return []
    # Names for the opposites are the same; of both, the one with the lesser size leaves less to try.
    by_opposite = 2 * told.size > told.many
    columns = _columns(told, by_opposite)
    lines = {column: line for line, column in enumerate(_columns(table, by_opposite))}
    return _namings_from((), columns, lines, most) if len(lines) == table.many else []


def _columns(table, by_opposite):
    """For each line the lots of the form, or of the opposite's form, in which it is, as the bits of a number."""
    rows = opposite_rows(table) if by_opposite else rows_of(table)
    return [sum([1 << k for k, row in enumerate(rows) if row >> line & 1]) for line in range(table.many)]


def _namings_from(images, columns, lines, most):
    """At most so many names by which each of the first bits of the told columns becomes its image."""
    due = [column for column in columns if column.bit_length() == len(images)]
    if not all([_image(images, column) in lines for column in due]):
        return []
    if len(images) == max([column.bit_length() for column in columns]):
        names = tuple([lines[_image(images, column)] for column in columns])
        return [names] if len(set(names)) == len(names) else []
    found = []
    for image in lines:
        if len(found) < most:
            found += _namings_from(images + (image,), columns, lines, most - len(found))
    return found


def _image(images, column):
    whole = 0
    for k, image in enumerate(images):
        if column >> k & 1:
            whole ^= image
    return whole
