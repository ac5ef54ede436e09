"""Lists of wishes, their cuts, and their tables."""

from ringtables.base.bits import is_ascending, is_worded, lot_of, mask_of, masks_of
from ringtables.base.lots import does_meet_oddly
from ringtables.errors import InvalidList, InvalidLot, TooMany
from ringtables.table.parts import part_table, parts
from ringtables.table.rings import rings
from ringtables.table.tables import demand_line, demand_table, made

MOST_CONTACTS = 12
MOST_WISHES = 100


def is_list(value):
    """Tell whether the value is a list."""
    if not isinstance(value, tuple) or not 1 <= len(value) <= MOST_WISHES:
        return False
    if not all([is_ascending(wish, MOST_CONTACTS) for wish in value]):
        return False
    if not all([one < other for one, other in zip(value, value[1:])]):
        return False
    masks = masks_of(value)
    # One of unlike wishes is within another one if both have just its contacts in common; () is within each.
    if 0 in masks or any([one & other == one for one in masks for other in masks if one != other]):
        return False
    return _every_contact(value) == (1 << contacts_of(value)) - 1


def cuts_of(wishes):
    """The ascending tuple of the cuts of a list."""
    demand_list(wishes)
    return least_meeting(contacts_of(wishes), masks_of(wishes))


def is_cut_of(wishes, value):
    """Tell whether the value is a cut of the list."""
    demand_list(wishes)
    if not is_ascending(value, contacts_of(wishes)):
        return False
    commons = [mask_of(value) & mask for mask in masks_of(wishes)]
    # A cut is least if each of its contacts is the only one of it in some wish.
    return 0 not in commons and all([1 << contact in commons for contact in value])


def lot_or_cut(wishes, shut):
    """A lot of the list whose contacts are all shut, or a cut whose contacts are all open."""
    _demand_shut(wishes, shut)
    mask = mask_of(shut)
    for wish in wishes:
        if not mask_of(wish) & ~mask:
            return ("lot", wish)
    cut = _every_contact(wishes) & ~mask
    for contact in lot_of(cut):
        rest = cut & ~(1 << contact)
        if all([rest & wish for wish in masks_of(wishes)]):
            cut = rest
    return ("cut", lot_of(cut))


def is_lot_or_cut(wishes, shut, value):
    """Tell whether the value is such a lot, or such a cut, with its word."""
    _demand_shut(wishes, shut)
    if is_worded(value, "lot") and is_wish(wishes, value[1]):
        return all([contact in shut for contact in value[1]])
    if is_worded(value, "cut") and is_cut_of(wishes, value[1]):
        return not any([contact in shut for contact in value[1]])
    return False


def conducting(wishes):
    """In how many of all ways to shut contacts the list conducts."""
    demand_list(wishes)
    return len(lot_of(_conducting(contacts_of(wishes), masks_of(wishes))))


def odd_or_pair(wishes):
    """("odd",), or a lot and a cut of the list that have an even number of common contacts."""
    demand_list(wishes)
    pair = pair_by(wishes, _evens(contacts_of(wishes)))
    return ("even",) + pair if pair else ("odd",)


def is_odd_or_pair(wishes, value):
    """Tell whether the value is ("odd",) for an odd list, or such a pair with its word."""
    demand_list(wishes)
    if is_worded(value, "odd", 1):
        return not pair_by(wishes, _evens(contacts_of(wishes)))
    if not is_worded(value, "even", 3) or not is_wish(wishes, value[1]) or not is_cut_of(wishes, value[2]):
        return False
    return not does_meet_oddly(value[1], value[2])


def table_of_list(wishes):
    """The table of the list: it has one line more, the pole line, the last one, which is in each wish."""
    demand_list(wishes)
    many = contacts_of(wishes)
    return made(many + 1, [mask | 1 << many for mask in masks_of(wishes)])


def list_of_table(table, line):
    """The ascending tuple of the rings through the line, without it, greater lines told by one less."""
    demand_table(table)
    demand_line(table, line)
    if table.many > MOST_CONTACTS + 1:
        raise TooMany(MOST_CONTACTS + 1)
    # In a part of several lines size is less than lines: it has no more sums than can be listed.
    at = [k for k, part in enumerate(parts(table)) if line in part][0]
    told, lines = part_table(table, at)
    found = [[lines[k] for k in ring] for ring in rings(told)]
    return tuple(sorted([_without(ring, line) for ring in found if line in ring]))


def demand_list(wishes):
    """Raise InvalidList unless this is a list."""
    if not is_list(wishes):
        raise InvalidList("a list of wishes is asked for")


def contacts_of(wishes):
    """How many contacts the list has."""
    return max([contact for wish in wishes for contact in wish]) + 1


def is_wish(wishes, value):
    """Tell whether the value is a lot of the list."""
    return is_ascending(value, MOST_CONTACTS) and value in wishes


def pair_by(wishes, wanted):
    """A lot and a cut of the list whose common contacts are wanted, told by their mask; () if there is no such pair."""
    pairs = [(cut, mask_of(cut)) for cut in cuts_of(wishes)]
    for wish in wishes:
        mask = mask_of(wish)
        for cut, other in pairs:
            if wanted[mask & other]:
                return (wish, cut)
    return ()


def least_meeting(many, masks):
    """The ascending tuple of the least lots of so many contacts that meet each of the masks."""
    every = (1 << many) - 1
    bits = _conducting(many, masks)
    # A lot meets all masks if none lies beyond it; it is least if with each contact of it some does.
    beyond = ((1 << (1 << many)) - 1) & ~bits
    for contact in range(many):
        beyond &= ~_lacking(many, contact) | bits >> (1 << contact)
    return tuple(sorted([lot_of(every ^ mask) for mask in lot_of(beyond)]))


def _conducting(many, masks):
    """The lots of so many contacts within which some of the masks lies, told as bits: that of a lot is its mask."""
    bits = mask_of(masks)
    for contact in range(many):
        bits |= (bits & _lacking(many, contact)) << (1 << contact)
    return bits


def _lacking(many, contact):
    """The lots without the contact, told as bits: these come and go by turns of 2 ** contact."""
    return ((1 << (1 << many)) - 1) // ((1 << (1 << contact)) + 1)


def _evens(many):
    """For each mask of so many contacts whether they are even in number."""
    evens = [True]
    for _ in range(many):
        evens = evens + [not even for even in evens]
    return evens


def _every_contact(wishes):
    """The mask of all contacts that are in some wish."""
    return mask_of(sorted(set([contact for wish in wishes for contact in wish])))


def _without(ring, line):
    """The other lines of a ring, those that are greater told by one less."""
    return tuple([other - 1 if other > line else other for other in ring if other != line])


def _demand_shut(wishes, shut):
    demand_list(wishes)
    if not is_ascending(shut, contacts_of(wishes)):
        raise InvalidLot("an ascending tuple of contacts is asked for")
