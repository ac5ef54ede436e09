"""Lots of lines: their sums, forms, opposites and tests."""

from ringtables.base.bits import SPAN, cleared, head_of, is_ascending, is_between, is_worded, kernel, lot_of
from ringtables.base.bits import is_tuple_of, lots_of, low_part, mask_of, masks_of, parity, reduced, shared
from ringtables.errors import InvalidLot, InvalidNumber, InvalidOperation

MOST_LINES = 24
MOST_LOTS = 64


def is_lot_of(many, value):
    """Tell whether the value is a lot of lines below the number."""
    _demand_many(many)
    return is_ascending(value, many)


def are_lots(value):
    """Tell whether the value is a tuple of at most 64 lots."""
    if not isinstance(value, tuple) or len(value) > MOST_LOTS:
        return False
    return all([is_ascending(lot, MOST_LINES) for lot in value])


def lot_sum(one, other):
    """The sum of two lots."""
    _demand_lot(one)
    _demand_lot(other)
    return lot_of(mask_of(one) ^ mask_of(other))


def does_meet_oddly(one, other):
    """Tell whether two lots have an odd number of common lines."""
    _demand_lot(one)
    _demand_lot(other)
    return parity(mask_of(one) & mask_of(other)) == 1


def sum_of_pick(lots, pick):
    """The sum of the lots with the indices of the pick."""
    _demand_lots(lots)
    if not is_ascending(pick, len(lots)):
        raise InvalidOperation("a pick is an ascending tuple of indices of the lots")
    return lot_of(_pick_sum(lots, pick))


def form_of(lots):
    """The form of lots."""
    _demand_lots(lots)
    return lots_of(reduced(masks_of(lots)))


def opposite_form(many, lots):
    """The form of all lots of so many lines that meet each of the lots evenly."""
    _demand_many(many)
    _demand_lots(lots)
    if not all([is_ascending(lot, many) for lot in lots]):
        raise InvalidOperation("a lot has a line that is not below the number of lines")
    return lots_of(kernel(many, reduced(masks_of(lots))))


def sum_or_test(lots, lot):
    """A pick whose sum the lot is, or a test lot that meets each of the lots evenly, and it oddly."""
    _demand_lots(lots)
    _demand_lot(lot)
    rows = _traced(lots)
    left = cleared(rows, mask_of(lot))
    line = head_of(low_part(left))
    if not line:
        return ("sum", lot_of(left >> SPAN))
    return ("test", lot_of(line | sum([head_of(row) for row in rows if row & line])))


def is_sum_or_test(lots, lot, value):
    """Tell whether the value is such a pick, or such a test, with its word."""
    _demand_lots(lots)
    _demand_lot(lot)
    mask = mask_of(lot)
    if is_worded(value, "sum") and is_ascending(value[1], len(lots)):
        return _pick_sum(lots, value[1]) == mask
    if is_worded(value, "test") and is_ascending(value[1], MOST_LINES):
        test = mask_of(value[1])
        return parity(test & mask) == 1 and not any([parity(test & other) for other in masks_of(lots)])
    return False


def met_or_bar(lots, bits):
    """A lot that meets just those lots oddly whose bit is 1, or a pick with the sum () whose bits sum to 1."""
    _demand_lots(lots)
    _demand_bits(lots, bits)
    asked = mask_of([k for k, bit in enumerate(bits) if bit])
    found = 0
    for row in _traced(lots):
        pick = row >> SPAN
        if parity(pick & asked):
            if not low_part(row):
                return ("bar", lot_of(pick))
            # No other row of the form has this head, so the head alone makes this row be met as asked.
            found |= head_of(row)
    return ("lot", lot_of(found))


def is_met_or_bar(lots, bits, value):
    """Tell whether the value is such a lot, or such a pick, with its word."""
    _demand_lots(lots)
    _demand_bits(lots, bits)
    if is_worded(value, "lot") and is_ascending(value[1], MOST_LINES):
        met = mask_of(value[1])
        return tuple([parity(met & mask) for mask in masks_of(lots)]) == bits
    if is_worded(value, "bar") and is_ascending(value[1], len(lots)):
        return not _pick_sum(lots, value[1]) and sum([bits[k] for k in value[1]]) & 1 == 1
    return False


def common_form(lots, more):
    """The form of all sums that both tuples of lots have."""
    _demand_lots(lots)
    _demand_lots(more)
    return lots_of(shared(masks_of(lots), masks_of(more)))


def _demand_many(many):
    if not is_between(many, 1, MOST_LINES):
        raise InvalidNumber(many)


def _demand_lot(lot):
    if not is_ascending(lot, MOST_LINES):
        raise InvalidLot("a lot is an ascending tuple of integers from 0 to 23")


def _demand_lots(lots):
    if not are_lots(lots):
        raise InvalidLot("lots are a tuple of at most 64 ascending tuples of integers from 0 to 23")


def _demand_bits(lots, bits):
    if not is_tuple_of(bits, len(lots)) or not all([is_between(bit, 0, 1) for bit in bits]):
        raise InvalidOperation("bits are a tuple of a 0 or a 1 for each lot")


def _pick_sum(lots, pick):
    found = 0
    for k in pick:
        found ^= mask_of(lots[k])
    return found


def _traced(lots):
    """The form of the lots, each row with the pick that makes it above its lines."""
    return reduced([mask_of(lot) | 1 << (SPAN + k) for k, lot in enumerate(lots)])
