"""Lists and nets with poles put together, and lists made by recipes."""

from ringtables.base.bits import head_of, is_between, is_whole, is_worded, lot_of, masks_of, merged
from ringtables.errors import InvalidNumber, InvalidOperation, TooMany
from ringtables.net.nets import Net, demand_net, demand_net_line, demand_room, renamed
from ringtables.wish.lists import MOST_CONTACTS, MOST_WISHES, contacts_of, demand_list, is_cut_of, is_wish, pair_by

_WORDS = ("and", "or")


def list_and(wishes, others):
    """The list of all unions of a wish of each, contacts of the other one counted on."""
    many = _demand_lists(wishes, others)
    _refuse_many(many, len(wishes) * len(others))
    return _all_unions(wishes, _counted_on(others, contacts_of(wishes)))


def list_or(wishes, others):
    """The list of the wishes of both, contacts of the other one counted on."""
    many = _demand_lists(wishes, others)
    _refuse_many(many, len(wishes) + len(others))
    return tuple(sorted(wishes + _counted_on(others, contacts_of(wishes))))


def list_put(wishes, contact, others):
    """The list with the other one in the place of a contact."""
    demand_list(wishes)
    if not is_between(contact, 0, contacts_of(wishes) - 1):
        raise InvalidNumber(contact)
    demand_list(others)
    stay = [wish for wish in wishes if contact not in wish]
    rests = [wish for wish in wishes if contact in wish]
    many = contacts_of(wishes) - 1
    _refuse_many(many + contacts_of(others), len(stay) + len(rests) * len(others))
    unions = _all_unions(_told_without(rests, contact), _counted_on(others, many))
    return tuple(sorted(_told_without(stay, contact) + unions))


def net_and(net, other):
    """The nets one behind the other: knot 1 of the first one and knot 0 of the other one are the knot 2."""
    _demand_nets(net, other)
    many = net.knots + other.knots - 1
    demand_room(many, len(net.lines) + len(other.lines))
    first = [0, 2] + list(range(3, net.knots + 1))
    behind = [2, 1] + list(range(net.knots + 1, many))
    return Net(many, renamed(net.lines, first) + renamed(other.lines, behind))


def net_or(net, other):
    """The nets side by side: they have the poles in common."""
    _demand_nets(net, other)
    many = net.knots + other.knots - 2
    demand_room(many, len(net.lines) + len(other.lines))
    return Net(many, net.lines + renamed(other.lines, [0, 1] + list(range(net.knots, many))))


def net_put(net, line, other):
    """The net with the other one in the place of a line, whose lesser knot takes the pole 0."""
    demand_net(net)
    demand_net_line(net, line)
    demand_net(other)
    _demand_knots(net, other)
    low, high = net.lines[line]
    if low == high:
        raise InvalidOperation("no net is put in the place of a loop")
    many = net.knots + other.knots - 2
    demand_room(many, len(net.lines) + len(other.lines) - 1)
    names = [low, high] + list(range(net.knots, many))
    return Net(many, net.lines[:line] + net.lines[line + 1:] + renamed(other.lines, names))


def is_recipe(value):
    """Tell whether the value is a recipe."""
    if not isinstance(value, tuple) or not all([is_whole(item) or item in _WORDS for item in value]):
        return False
    contacts = [item for item in value if is_whole(item)]
    if len(contacts) > MOST_CONTACTS or sorted(contacts) != list(range(len(contacts))):
        return False
    lying = 0
    for item in value:
        lying += 1 if is_whole(item) else -1
        # A word needs two lists, and leaves one of them.
        if lying < 1:
            return False
    return lying == 1


def list_of_recipe(recipe):
    """The list that the recipe makes."""
    _demand_recipe(recipe)
    lists = []
    for item in recipe:
        if is_whole(item):
            lists.append(((item,),))
        else:
            other = lists.pop()
            one = lists.pop()
            lists.append(_all_unions(one, other) if item == "and" else one + other)
    return tuple(sorted(lists[0]))


def net_of_recipe(recipe):
    """A net that does the list of the recipe."""
    _demand_recipe(recipe)
    knots = 2
    ends = {}
    due = [(0, 1)]
    # From right to left each word tells between which knots its two nets go, the last one first.
    for item in recipe[::-1]:
        low, high = due.pop()
        if is_whole(item):
            ends[item] = (low, high)
        elif item == "or":
            due += [(low, high), (low, high)]
        else:
            due += [(low, knots), (knots, high)]
            knots += 1
    return Net(knots, tuple([tuple(sorted(ends[contact])) for contact in range(len(ends))]))


def recipe_or_pair(wishes):
    """A recipe of the list, or a wish and a cut with two common contacts or more."""
    demand_list(wishes)
    many = contacts_of(wishes)
    pair = pair_by(wishes, [mask != head_of(mask) for mask in range(1 << many)])
    return ("pair",) + pair if pair else ("recipe", tuple(_recipe(masks_of(wishes), (1 << many) - 1)))


def is_recipe_or_pair(wishes, value):
    """Tell whether the value is such a recipe, or such a pair, with its word."""
    demand_list(wishes)
    if is_worded(value, "recipe"):
        return is_recipe(value[1]) and list_of_recipe(value[1]) == wishes
    if not is_worded(value, "pair", 3) or not is_wish(wishes, value[1]) or not is_cut_of(wishes, value[2]):
        return False
    return len([contact for contact in value[1] if contact in value[2]]) > 1


def _counted_on(wishes, many):
    return tuple([tuple([contact + many for contact in wish]) for wish in wishes])


def _all_unions(wishes, others):
    """The ascending tuple of all unions of a wish of each."""
    return tuple(sorted([tuple(sorted(wish + other)) for wish in wishes for other in others]))


def _told_without(wishes, contact):
    """The wishes without the contact, greater ones told by one less."""
    rests = [[other for other in wish if other != contact] for wish in wishes]
    return tuple([tuple([other - 1 if other > contact else other for other in rest]) for rest in rests])


def _recipe(masks, contacts):
    """The recipe, as a list, of these contacts, by what the wishes have of them; each wish meets each cut in one."""
    lot = lot_of(contacts)
    if len(lot) == 1:
        return list(lot)
    tied = {contact: _union([mask for mask in masks if mask >> contact & 1]) for contact in lot}
    groups = merged(list(tied.values()))
    word = "or"
    if len(groups) == 1:
        # Contacts that are not tied hang together now.
        groups = merged([contacts & ~tied[contact] | 1 << contact for contact in lot])
        word = "and"
    found = []
    for group in groups:
        part = _recipe([mask & group for mask in masks if mask & group], group)
        found += part + [word] if found else part
    return found


def _union(masks):
    whole = 0
    for mask in masks:
        whole |= mask
    return whole


def _demand_lists(wishes, others):
    """How many contacts both lists have; InvalidList unless both are lists."""
    demand_list(wishes)
    demand_list(others)
    return contacts_of(wishes) + contacts_of(others)


def _demand_nets(net, other):
    demand_net(net)
    demand_net(other)
    _demand_knots(net, other)


def _demand_knots(net, other):
    if min(net.knots, other.knots) < 2:
        raise InvalidOperation("nets with two knots at least are asked for")


def _demand_recipe(recipe):
    if not is_recipe(recipe):
        raise InvalidOperation("a recipe is asked for")


def _refuse_many(contacts, wishes):
    if contacts > MOST_CONTACTS:
        raise TooMany(MOST_CONTACTS)
    if wishes > MOST_WISHES:
        raise TooMany(MOST_WISHES)
