"""Lots as masks, whose bit k tells whether the lot has line k, and the checks of plain values."""

# Masks can carry a second lot above the first one, moved up by this many bits; knots need 25.
SPAN = 32

# Integers that are passed have at most sixty digits.
MOST_WHOLE = 10 ** 60 - 1


def is_whole(value):
    """Tell whether the value is an integer: True and False are none."""
    return isinstance(value, int) and not isinstance(value, bool)


def is_between(value, least, most):
    """Tell whether the value is an integer from the least to the most one."""
    return is_whole(value) and least <= value <= most


def is_ascending(value, bound):
    """Tell whether the value is an ascending tuple of integers from 0 on, all below the bound."""
    if not isinstance(value, tuple):
        return False
    least = 0
    for number in value:
        if not is_between(number, least, bound - 1):
            return False
        least = number + 1
    return True


def is_tuple_of(value, many):
    """Tell whether the value is a tuple with so many items."""
    return isinstance(value, tuple) and len(value) == many


def is_worded(value, word, many=2):
    """Tell whether the value is a tuple with so many items, this word being the first one."""
    return is_tuple_of(value, many) and isinstance(value[0], str) and value[0] == word


def is_row(value, many):
    """Tell whether the value is a tuple of so many integers of at most sixty digits."""
    return is_tuple_of(value, many) and all([is_between(number, -MOST_WHOLE, MOST_WHOLE) for number in value])


def mask_of(lot):
    """The mask of a lot."""
    return sum([1 << line for line in lot])


def lot_of(mask):
    """The lot of a mask."""
    return tuple([line for line in range(mask.bit_length()) if mask >> line & 1])


def masks_of(lots):
    """The masks of lots, a list."""
    return [mask_of(lot) for lot in lots]


def lots_of(masks):
    """The lots of masks, a tuple."""
    return tuple([lot_of(mask) for mask in masks])


def head_of(mask):
    """The mask of the least line alone, 0 for no lines."""
    return mask & -mask


def parity(mask):
    """1 if the number of lines is odd, else 0."""
    return len(lot_of(mask)) & 1


def low_part(mask):
    """The lower one of two lots that a mask carries."""
    return mask & ((1 << SPAN) - 1)


def cleared(rows, mask):
    """The mask with the rows of a form summed in, so that it has none of their heads."""
    left = mask
    for row in rows:
        if left & head_of(row):
            left ^= row
    return left


def reduced(masks):
    """The form of the masks, a list: heads ascend, and no head is in another row."""
    rows = []
    for mask in masks:
        left = cleared(rows, mask)
        if left:
            head = head_of(left)
            rows = [row ^ left if row & head else row for row in rows] + [left]
    return sorted(rows, key=lambda row: row & -row)


def kernel(many, rows):
    """The form of all masks of so many lines that meet each row of a form evenly."""
    heads = sum([head_of(row) for row in rows])
    found = []
    for line in range(many):
        bit = 1 << line
        if not heads & bit:
            found.append(bit | sum([head_of(row) for row in rows if row & bit]))
    return reduced(found)


def carried(masks):
    """The form of the upper lots of all sums whose lower lot is empty."""
    return [row >> SPAN for row in reduced(masks) if not low_part(row)]


def within(rows, mask):
    """The form of all sums of the rows that lie within the mask."""
    return carried([(row & ~mask) | ((row & mask) << SPAN) for row in rows])


def shared(rows, more):
    """The form of all sums that both tuples of rows have."""
    return carried([row | (row << SPAN) for row in rows] + list(more))


def is_least(rows, mask):
    """Tell whether the mask is a sum of the rows other than 0 that has none but 0 and itself within."""
    return within(rows, mask) == [mask]


def merged(masks):
    """The masks with those put together that have a common line, by ascending heads."""
    groups = []
    for mask in masks:
        whole = mask
        for group in groups:
            if group & mask:
                whole |= group
        groups = [group for group in groups if not group & mask] + [whole]
    return sorted(groups, key=lambda group: group & -group)


def hanging(rows, lines):
    """The masks of the lines that hang together by the rows of a form, by ascending heads."""
    groups = merged(rows)
    alone = [1 << line for line in lot_of(lines & ~sum(groups))]
    return sorted(groups + alone, key=lambda group: group & -group)


def renumbered(mask, lines):
    """The mask in which the line lines[k] gets the number k; lines that are not told go."""
    return sum([1 << k for k, line in enumerate(lines) if mask >> line & 1])
