"""Texts of tables, nets, steps, bars, signs and lists, written and read back."""

from ringtables.base.bits import is_ascending
from ringtables.base.lots import MOST_LINES
from ringtables.errors import InvalidOperation, InvalidText, ParseError
from ringtables.main.bars import WORDS, is_bar
from ringtables.net.nets import MOST_KNOTS, Net, demand_net
from ringtables.sign.signs import are_formed, demand_signs
from ringtables.table.lesser import followed
from ringtables.table.tables import MOST_TABLE_LOTS, Table, demand_table
from ringtables.wish.lists import MOST_CONTACTS, MOST_WISHES, demand_list, is_list

MOST_TEXT = 200000

_SIGNS = {"-1": -1, "0": 0, "1": 1}


def table_text(table):
    """The text of a table: its lines, and each of its lots."""
    demand_table(table)
    return _text([("lines", table.many)] + [("lot",) + lot for lot in table.lots])


def read_table(text):
    """The table of a text."""
    items = _read(text, _table_item)
    _demand_enough(items, len(items) > 0)
    return Table(items[0], tuple(items[1:]))


def net_text(net):
    """The text of a net: its knots, and each of its lines."""
    demand_net(net)
    return _text([("knots", net.knots)] + [("line",) + pair for pair in net.lines])


def read_net(text):
    """The net of a text."""
    items = _read(text, _net_item)
    _demand_enough(items, len(items) > 1)
    return Net(items[0], tuple(items[1:]))


def steps_text(table, steps):
    """The text of steps."""
    demand_table(table)
    if followed(table, steps) is None:
        raise InvalidOperation("steps of the table are asked for")
    return _text(steps)


def read_steps(table, text):
    """The steps of a text."""
    demand_table(table)
    return tuple(_read(text, lambda items, words: _step(words, table.many - len(items))))


def bar_text(table, bar):
    """The text of a bar: its word, its steps, its names."""
    if not is_bar(table, bar):
        raise InvalidOperation("a bar of the table is asked for")
    word, steps, names = bar
    return _text(((word,),) + steps + (("names",) + names,))


def read_bar(table, text):
    """The bar of a text."""
    demand_table(table)
    items = _read(text, _bar_item)
    _demand_enough(items, len(items) > 1 and items[-1][0] == "names")
    bar = (items[0], tuple(items[1:-1]), items[-1][1])
    _demand_enough(items, is_bar(table, bar))
    return bar


def signs_text(table, signs):
    """The text of signs: each of their rows."""
    demand_signs(table, signs)
    return _text([("row",) + row for row in signs])


def read_signs(table, text):
    """The signs of a text, right or not."""
    demand_table(table)
    signs = tuple(_read(text, lambda items, words: _sign_row(words, table, len(items))))
    _demand_enough(signs, are_formed(table, signs))
    return signs


def list_text(wishes):
    """The text of a list: each of its wishes."""
    demand_list(wishes)
    return _text([("wish",) + wish for wish in wishes])


def read_list(text):
    """The list of a text."""
    wishes = tuple(_read(text, _wish))
    _demand_enough(wishes, is_list(wishes))
    return wishes


def _text(rows):
    """A line for each row, of its words and numbers."""
    return "".join([" ".join([str(part) for part in row]) + "\n" for row in rows])


def _read(text, item_of):
    """The items of the lines of a text, a list.

    `item_of` is passed the items of the lines ahead, and the words of the line; it returns None for a wrong line.
    """
    _demand_text(text)
    lines = text.split("\n")
    # What is behind the last end is a line only if it is not empty.
    left = lines.pop()
    items = []
    for line in lines + [left] if left else lines:
        item = item_of(items, line.split(" "))
        if item is None:
            raise ParseError(len(items))
        items.append(item)
    if left:
        raise ParseError(len(lines))
    return items


def _numbers(words, numbers):
    """The numbers of the words, by a dict of those that may stand there; None if some word is none of them."""
    if not all([word in numbers for word in words]):
        return None
    return tuple([numbers[word] for word in words])


def _below(bound):
    """The words of the numbers from 0 on that are below the bound."""
    return {str(number): number for number in range(bound)}


def _worded_numbers(words, word, bound):
    """The numbers below the bound that stand behind the word; None if the line is of another form."""
    return _numbers(words[1:], _below(bound)) if words[0] == word else None


def _told_number(words, word, most):
    """The number from 1 to the most one that stands behind the word; None if the line is of another form."""
    numbers = _worded_numbers(words, word, most + 1)
    return numbers[0] if numbers is not None and len(numbers) == 1 and numbers[0] else None


def _table_item(items, words):
    """The number of lines, then lots."""
    if not items:
        return _told_number(words, "lines", MOST_LINES)
    lot = _worded_numbers(words, "lot", items[0])
    return lot if is_ascending(lot, items[0]) and len(items) <= MOST_TABLE_LOTS else None


def _net_item(items, words):
    """The number of knots, then pairs of them."""
    if not items:
        return _told_number(words, "knots", MOST_KNOTS)
    pair = _worded_numbers(words, "line", items[0])
    if pair is None or len(items) > MOST_LINES:
        return None
    return pair if len(pair) == 2 and pair[0] <= pair[1] else None


def _step(words, many):
    """A step of a table with so many lines that leaves one."""
    if many < 2 or words[0] not in ("join", "out"):
        return None
    numbers = _worded_numbers(words, words[0], many)
    return (words[0], numbers[0]) if numbers is not None and len(numbers) == 1 else None


def _bar_item(items, words):
    """The word, then steps, then names behind their word."""
    if not items:
        return words[0] if len(words) == 1 and words[0] in WORDS else None
    if len(items) > 1 and items[-1][0] == "names":
        return None
    if words[0] != "names":
        return _step(words, MOST_LINES) if len(items) <= MOST_LINES else None
    names = _worded_numbers(words, "names", MOST_LINES)
    return None if names is None else ("names", names)


def _sign_row(words, table, count):
    """A row of the signs, when so many are there."""
    row = _numbers(words[1:], dict(_SIGNS)) if words[0] == "row" else None
    return row if row is not None and len(row) == table.many and count < table.size else None


def _wish(wishes, words):
    """A wish that ascends above the one ahead."""
    wish = _worded_numbers(words, "wish", MOST_CONTACTS)
    if not wish or not is_ascending(wish, MOST_CONTACTS) or len(wishes) == MOST_WISHES:
        return None
    return wish if not wishes or wishes[-1] < wish else None


def _demand_text(text):
    if not isinstance(text, str) or len(text) > MOST_TEXT:
        raise InvalidText("a string of at most 200,000 signs is asked for")
    if not text.isascii() or not text.replace("\n", "").isprintable():
        raise InvalidText("a text has printable ASCII signs and line ends alone")


def _demand_enough(items, is_right):
    """Raise ParseError with the number of lines unless the items are enough, and fit."""
    if not is_right:
        raise ParseError(len(items))
