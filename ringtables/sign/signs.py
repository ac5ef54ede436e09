"""Signs for tables: right ones, or a bar; how they come of one another, of opposites, and of nets."""

from ringtables.base.bits import head_of, is_ascending, is_tuple_of, is_whole, is_worded, lot_of
from ringtables.errors import InvalidOperation, InvalidSigns, TooMany
from ringtables.main.bars import is_bar, least_bar
from ringtables.net.nets import table_of, walk_of
from ringtables.table.parts import parts
from ringtables.table.tables import demand_lot, demand_table, every_line, rows_of

MOST_SIGNED = 16

# Sums of at most 16 rows have numbers from -16 to 16: with so many bits for each they stay apart.
_FIELD = 6


def are_signs(table, value):
    """Tell whether the value are signs for the table, right or not."""
    demand_table(table)
    demand_few_lines(table)
    return are_formed(table, value)


def are_right_signs(table, value):
    """Tell whether the value are right signs for the table."""
    return are_signs(table, value) and _are_right(table, value)


def split_of(table, signs, pick):
    """A 1 or -1 for each picked row, by which they sum to -1, 0 and 1 alone; None if there is none."""
    _demand_pick(table, signs, pick)
    return _split(_block(signs, pick, _columns(table)))


def is_split(table, signs, pick, value):
    """Tell whether the value is such a split, or None if there is none."""
    _demand_pick(table, signs, pick)
    if value is None:
        return _split(_block(signs, pick, _columns(table))) is None
    if not is_tuple_of(value, len(pick)) or not all([is_whole(number) and number in (1, -1) for number in value]):
        return False
    sums = [sum([number * signs[k][line] for k, number in zip(pick, value)]) for line in range(table.many)]
    return all([total in (-1, 0, 1) for total in sums])


def right_or_lot(table, signs):
    """("right",), or a lot of size-many lines with another determinant than -1, 0, 1."""
    demand_signs(table, signs)
    demand_few_lines(table)
    if _are_right(table, signs):
        return ("right",)
    rows = list(range(table.size))
    columns = _columns(table)
    # Rows and columns go as long as some determinant within stays wrong: at last it is that of all that are left.
    for row in range(table.size):
        rest = [other for other in rows if other != row]
        rows = rows if _is_unimodular(_block(signs, rest, columns)) else rest
    for column in _columns(table):
        rest = [other for other in columns if other != column]
        columns = columns if _is_unimodular(_block(signs, rows, rest)) else rest
    heads = [lot[0] for k, lot in enumerate(table.form) if k not in rows]
    return ("lot", tuple(sorted(heads + columns)))


def is_right_or_lot(table, signs, value):
    """Tell whether the value is ("right",) for right signs, or such a lot with its word."""
    demand_signs(table, signs)
    demand_few_lines(table)
    if is_worded(value, "right", 1):
        return _are_right(table, signs)
    if not is_worded(value, "lot") or not is_ascending(value[1], table.many) or len(value[1]) != table.size:
        return False
    return determinant(_block(signs, list(range(table.size)), value[1])) not in (-1, 0, 1)


def signs_or_bar(table):
    """Right signs with their word, or a bar with the word "seven" or "fours"."""
    signs = right_signs(table)
    return least_bar(table, every_line(table), _has_no_signs) if signs is None else ("signs", signs)


def is_signs_or_bar(table, value):
    """Tell whether the value is such signs, or such a bar."""
    demand_table(table)
    demand_few_lines(table)
    if is_worded(value, "signs"):
        return are_right_signs(table, value[1])
    return is_bar(table, value) and value[0] in ("seven", "fours")


def turned_signs(table, signs, lot):
    """The signs with the lines of the lot turned."""
    demand_signs(table, signs)
    demand_lot(table, lot)
    demand_few_lines(table)
    return _turned(table, signs, lot)


def turns_between(table, signs, others):
    """A lot of lines that, turned, leads the one signs to the others; None if there is none."""
    demand_signs(table, signs)
    demand_signs(table, others)
    demand_few_lines(table)
    return _turns(table, signs, others)


def is_turns_between(table, signs, others, value):
    """Tell whether the value is such a lot, or None if there is none."""
    found = turns_between(table, signs, others)
    if value is None:
        return found is None
    return is_ascending(value, table.many) and _turned(table, signs, value) == others


def opposite_signs(table, signs):
    """The signs of the opposite whose rows have the product 0 with those of these right ones."""
    demand_signs(table, signs)
    demand_right(table, signs)
    heads = [lot[0] for lot in table.form]
    left = []
    for column in _columns(table):
        row = [-signs[heads.index(line)][column] if line in heads else 0 for line in range(table.many)]
        row[column] = 1
        left.append(row)
    return _signed_form(left, table.many)


def net_signs(net):
    """The signs by which one goes round each lot of the form along its head."""
    table = table_of(net)
    return tuple([_walked_signs(net, lot) for lot in table.form])


def sign_count(table):
    """How many signs of the table are right."""
    return 0 if right_signs(table) is None else 1 << (table.many - len(parts(table)))


def right_signs(table):
    """Right signs for the table, None if there are none."""
    demand_table(table)
    demand_few_lines(table)
    signs = _numbers(rows_of(table), table.many)
    return tuple([tuple(row) for row in signs]) if _are_right(table, signs) else None


def determinant(rows):
    """The determinant of as many rows as they have numbers."""
    left = list(rows)
    sign = 1
    before = 1
    while left:
        fitting = [k for k, row in enumerate(left) if row[0]]
        if not fitting:
            return 0
        sign = -sign if fitting[0] & 1 else sign
        top = left.pop(fitting[0])
        # The quotients are whole, being determinants themselves (Bareiss).
        left = [[(row[k] * top[0] - row[0] * top[k]) // before for k in range(1, len(top))] for row in left]
        before = top[0]
    return sign * before


def demand_few_lines(table):
    """Raise TooMany if the table has more than 16 lines."""
    if table.many > MOST_SIGNED:
        raise TooMany(MOST_SIGNED)


def demand_signs(table, signs):
    """Raise InvalidTable unless this is a table, InvalidSigns unless these are signs for it, right or not."""
    demand_table(table)
    if not are_formed(table, signs):
        raise InvalidSigns("signs for the table are asked for")


def demand_right(table, signs):
    """Raise TooMany if the table of the signs has more than 16 lines, InvalidOperation unless they are right."""
    demand_few_lines(table)
    if not _are_right(table, signs):
        raise InvalidOperation("right signs are asked for")


def are_formed(table, value):
    """Tell whether the value are signs for the table, of any number of lines, right or not."""
    if not is_tuple_of(value, table.size):
        return False
    return all([_is_signed(table.many, lot, row) for lot, row in zip(table.form, value)])


def _is_signed(many, lot, row):
    """Tell whether the row has 1 at the head of the lot, 1 or -1 at its other lines, and 0 elsewhere."""
    if not is_tuple_of(row, many) or not all([is_whole(number) for number in row]) or row[lot[0]] != 1:
        return False
    return [abs(number) for number in row] == [1 if line in lot else 0 for line in range(many)]


def _are_right(table, signs):
    return _is_unimodular(_block(signs, list(range(table.size)), _columns(table)))


def _columns(table):
    """The lines that are no heads."""
    heads = [lot[0] for lot in table.form]
    return [line for line in range(table.many) if line not in heads]


def _block(signs, rows, columns):
    """What some rows have at some lines."""
    return [[signs[row][column] for column in columns] for row in rows]


def _packed(row):
    return sum([number << _FIELD * k for k, number in enumerate(row)])


def _is_level(total, ones):
    """Tell whether all numbers packed in the total are -1, 0 or 1; `ones` packs as many ones."""
    # With one added to each number these must be 0, 1 or 2; a total below 0 has bits beyond all of them.
    whole = total + ones
    return not whole & ~(3 * ones) and not whole & whole >> 1 & ones


def _is_unimodular(block):
    """Tell whether each pick of rows has a split: then all determinants within are -1, 0 or 1."""
    if len(block) > 0 and len(block) > len(block[0]):
        # The same holds of the columns, of which there are fewer.
        return _is_unimodular([[row[k] for row in block] for k in range(len(block[0]))])
    vectors = [_packed(row) for row in block]
    ones = _packed([1] * len(block[0])) if block else 0
    totals = [[0]]
    for pick in range(1, 1 << len(vectors)):
        last = pick.bit_length() - 1
        rest = totals[pick ^ 1 << last]
        fresh = [total + vectors[last] for total in rest] + [total - vectors[last] for total in rest]
        if not any([_is_level(total, ones) for total in fresh]):
            return False
        totals.append(fresh)
    return True


def _split(block):
    """Numbers 1 and -1 by which the rows sum to -1, 0 and 1 alone; None if there are none."""
    found = {0: ()}
    for row in block:
        fresh = {}
        for total, told in found.items():
            fresh[total + _packed(row)] = told + (1,)
            fresh[total - _packed(row)] = told + (-1,)
        found = fresh
    ones = _packed([1] * len(block[0])) if block else 0
    for total, told in found.items():
        if _is_level(total, ones):
            return told
    return None


def _numbers(rows, many):
    """Numbers 1 and -1 for the lines of each row of a form, 0 for others: right signs, if there are some."""
    numbers = [[0] * many for _ in rows]
    for column in range(many):
        told = {}
        near = [k for k, row in enumerate(rows) if row >> column & 1]
        while len(told) < len(near):
            k, number = _next_number(numbers, near, told)
            told[k] = number
        for k, number in told.items():
            numbers[k][column] = number
    return numbers


def _next_number(numbers, near, told):
    """A row of those near a new column that has no number told, and the number that it must have there.

    A shortest way to it from a row that has one makes, with the new column, a ring without a tie across: its numbers
    must sum to a multiple of 4.
    """
    totals = {**told}
    wave = list(told)
    while wave:
        fresh = []
        for row in wave:
            for other, both in _ties(numbers, row):
                if other not in totals:
                    totals[other] = totals[row] + both
                    fresh.append(other)
                    if other in near:
                        return (other, 1 if totals[other] + 1 & 3 == 0 else -1)
        wave = fresh
    return ([row for row in near if row not in told][0], 1)


def _ties(numbers, row):
    """The rows that have a column in common with this one, each with the sum of both numbers there."""
    found = []
    for column, number in enumerate(numbers[row]):
        if number:
            found += [(other, number + more[column]) for other, more in enumerate(numbers) if more[column]]
    return found


def _has_no_signs(lines, others):
    """Tell whether the table with these lines has no right signs: its opposite, told by its form, has none, too."""
    heads = sum([head_of(row) for row in others])
    numbers = _numbers(others, lines.bit_length())
    return not _is_unimodular(_block(numbers, list(range(len(others))), lot_of(lines & ~heads)))


def _turned(table, signs, lot):
    found = []
    for told, row in zip(table.form, signs):
        turned = [line for line in range(table.many) if (line in lot) != (told[0] in lot)]
        found.append(tuple([-number if line in turned else number for line, number in enumerate(row)]))
    return tuple(found)


def _turns(table, signs, others):
    """A lot of lines that leads the signs to the others, None if there is none."""
    ties = []
    for lot, row, more in zip(table.form, signs, others):
        ties += [(lot[0], line, 0 if row[line] == more[line] else 1) for line in lot]
    told = {}
    for start in range(table.many):
        if start not in told:
            told[start] = 0
            _tell_turns(told, start, ties)
    if any([told[head] ^ told[line] != bit for head, line, bit in ties]):
        return None
    return tuple([line for line in range(table.many) if told[line]])


def _tell_turns(told, start, ties):
    """Tell all lines to which ties lead from the start whether they are turned."""
    wave = [start]
    while wave:
        fresh = []
        for one, other, bit in ties + [(line, head, bit) for head, line, bit in ties]:
            if one in wave and other not in told:
                told[other] = told[one] ^ bit
                fresh.append(other)
        wave = fresh


def _signed_form(rows, many):
    """The rows that sums of these make, each times a number, with 1 at ascending heads, 0 at those of others.

    All numbers that come up are -1, 0 or 1, as the rows are of right signs.
    """
    left = rows
    found = []
    for line in range(many):
        fitting = [k for k, row in enumerate(left) if row[line]]
        if fitting:
            top = left[fitting[0]]
            top = [number * top[line] for number in top]
            rest = left[:fitting[0]] + left[fitting[0] + 1:]
            left = [_cleared(row, top, line) for row in rest]
            found = [_cleared(row, top, line) for row in found] + [top]
    return tuple([tuple(row) for row in found])


def _cleared(row, top, line):
    return [number - row[line] * more for number, more in zip(row, top)]


def _walked_signs(net, lot):
    row = [0] * len(net.lines)
    # A walk goes along its first line, the head, from the first end to the second one.
    knot = net.lines[lot[0]][0]
    for line in walk_of(net, lot):
        low, high = net.lines[line]
        row[line] = 1 if knot == low else -1
        knot = low + high - knot
    return tuple(row)


def _demand_pick(table, signs, pick):
    demand_signs(table, signs)
    if not is_ascending(pick, table.size):
        raise InvalidOperation("an ascending tuple of indices of rows is asked for")
    demand_few_lines(table)
