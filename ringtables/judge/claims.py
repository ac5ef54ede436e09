"""Claims, each with its opposite, and one judge of their papers."""

from ringtables.base.bits import is_ascending, is_between, is_tuple_of, is_worded
from ringtables.base.lots import MOST_LINES, is_sum_or_test
from ringtables.errors import InvalidClaim, InvalidOperation, TooMany, UnknownName
from ringtables.main.bars import is_bar, net_or_bar
from ringtables.main.found import is_net_or_stop, net_or_stop
from ringtables.main.kinds import flat_or_bar, is_flat_or_bar, is_kind_paper
from ringtables.more.ways import is_way_or_paper, way_or_paper
from ringtables.net.nets import is_net_of
from ringtables.sign.signs import MOST_SIGNED, are_right_signs, net_signs, signs_or_bar
from ringtables.table.rings import is_cut, is_painted, painted
from ringtables.table.sides import is_sides_or_row, sides_or_row
from ringtables.table.tables import Table, is_test, sum_by, tested
from ringtables.wish.lists import is_list
from ringtables.wish.poles import is_net_or_paper, net_or_paper

MOST_CLAIMS = 8
OPPOSITES = {
    "bare": "signed", "barred": "free", "bent": "flat", "cut": "ring", "done": "undone", "each": "some", "even": "odd",
    "flat": "bent", "free": "barred", "net": "stopped", "no way": "way", "odd": "even", "ring": "cut",
    "signed": "bare", "some": "each", "stopped": "net", "sum": "test", "test": "sum", "undone": "done",
    "way": "no way",
}

_JOINED = ("each", "some")
# Papers of claims with the first word tell papers of claims with the second one.
_LED = (
    ("flat", "net"), ("flat", "free"), ("flat", "signed"), ("net", "signed"), ("free", "signed"), ("bare", "barred"),
    ("barred", "bent"),
)


def is_claim(value):
    """Tell whether the value is a claim."""
    if not isinstance(value, tuple) or len(value) < 2 or not isinstance(value[0], str) or value[0] not in OPPOSITES:
        return False
    if value[0] not in _JOINED:
        return _is_lone(value)
    if len(value) != 2 or not isinstance(value[1], tuple) or not is_between(len(value[1]), 1, MOST_CLAIMS):
        return False
    return all([is_claim(claim) and claim[0] not in _JOINED for claim in value[1]])


def opposite_claim(claim):
    """The opposite of a claim, about the same things."""
    _demand_claim(claim)
    return _opposite(claim)


def does_take(claim, value):
    """Tell whether `claim` is a claim, and the value a paper of it."""
    if not is_claim(claim):
        return False
    if claim[0] == "each":
        many = len(claim[1])
        return is_tuple_of(value, many) and all([_does_take(claim[1][k], value[k]) for k in range(many)])
    if claim[0] == "some":
        if not is_tuple_of(value, 2) or not is_between(value[0], 0, len(claim[1]) - 1):
            return False
        return _does_take(claim[1][value[0]], value[1])
    return _does_take(claim, value)


def settled(claim):
    """The pair of the true one of the claim and its opposite, and of a paper of it."""
    _demand_claim(claim)
    if claim[0] not in _JOINED:
        return _settled(claim)
    papers = []
    for k, one in enumerate(claim[1]):
        told, paper = _settled(one)
        # One claim that is true makes "some" so, one that is not true its opposite that of "each".
        if (told[0] == one[0]) == (claim[0] == "some"):
            return (claim if claim[0] == "some" else _opposite(claim), (k, paper))
        papers.append(paper)
    return (claim if claim[0] == "each" else _opposite(claim), tuple(papers))


def led_paper(claim, value, word):
    """The paper of the claim with this word about the same table that a paper of a claim tells."""
    _demand_claim(claim)
    if not does_take(claim, value):
        raise InvalidOperation("a paper of the claim is asked for")
    if (claim[0], word) not in _LED:
        raise UnknownName(word)
    if word == "signed" and claim[1].many > MOST_SIGNED:
        raise TooMany(MOST_SIGNED)
    if word == "bent":
        return ("table", value)
    told = value[0] if claim[0] == "flat" else value
    return net_signs(told) if word == "signed" else told


def _is_lone(value):
    """Tell whether the value, a tuple that begins with a word of a claim, is a claim about a table or a list."""
    word, about, things = value[0], value[1], value[2:]
    if word in ("done", "undone"):
        return not things and is_list(about)
    if not isinstance(about, Table):
        return False
    if word in ("ring", "cut"):
        return len(things) == 2 and _is_painting(about, things[0], things[1])
    if word in ("sum", "test", "even", "odd", "way", "no way"):
        return len(things) == 1 and _is_fitting(word, about, things[0])
    return not things and (word not in ("signed", "bare") or about.many <= MOST_SIGNED)


def _is_painting(table, line, lot):
    return is_between(line, 0, table.many - 1) and is_ascending(lot, table.many) and line not in lot


def _is_fitting(word, table, lot):
    """Tell whether the lot is one of those that a claim with this word is about."""
    if word in ("even", "odd"):
        return is_cut(table, lot)
    if word in ("way", "no way") and (lot == () or table.many == MOST_LINES):
        return False
    return is_ascending(lot, table.many)


def _opposite(claim):
    if claim[0] in _JOINED:
        return (OPPOSITES[claim[0]], tuple([_opposite(one) for one in claim[1]]))
    return (OPPOSITES[claim[0]],) + claim[1:]


def _does_take(claim, value):
    """Tell whether the value is a paper of a claim about a table or a list."""
    word, about = claim[0], claim[1]
    if word in ("net", "free"):
        return is_net_of(about, value)
    if word == "stopped":
        return is_tuple_of(value, 2) and is_net_or_stop(about, ("stop",) + value)
    if word == "barred":
        return is_bar(about, value)
    if word == "signed":
        return are_right_signs(about, value)
    if word == "bare":
        return is_kind_paper(about, ("bare", value))
    if word == "flat":
        return is_tuple_of(value, 2) and is_kind_paper(about, ("flat",) + value)
    if word == "bent":
        return not is_worded(value, "flat", 3) and is_flat_or_bar(about, value)
    if word == "done":
        return is_net_or_paper(about, ("net", value))
    if word == "undone":
        return not is_worded(value, "net") and is_net_or_paper(about, value)
    return _does_take_of_lot(word, about, claim[2:], value)


def _does_take_of_lot(word, table, things, value):
    """Tell whether the value is a paper of a claim about a lot of a table."""
    if word == "sum":
        return is_sum_or_test(table.form, things[0], ("sum", value))
    if word == "test":
        return is_test(table, things[0], value)
    if word in ("ring", "cut"):
        return is_painted(table, things[0], things[1], (word, value))
    if word in ("even", "odd"):
        return is_sides_or_row(table, things[0], ("sides" if word == "even" else "row", value))
    if word == "way":
        return is_way_or_paper(table, things[0], ("way", value))
    return not is_worded(value, "way") and is_way_or_paper(table, things[0], value)


def _settled(claim):
    """What `settled` returns, of a claim about a table or a list."""
    told = _word_and_paper(claim[0], claim[1], claim[2:])
    return ((told[0],) + claim[1:], told[1])


def _word_and_paper(word, about, things):
    """The word of the true one of a claim and its opposite, and a paper of it."""
    if word in ("net", "stopped"):
        told = net_or_stop(about)
        return told if told[0] == "net" else ("stopped", told[1:])
    if word in ("free", "barred"):
        told = net_or_bar(about)
        return ("free" if told[0] == "net" else "barred", told[1])
    if word in ("signed", "bare"):
        told = signs_or_bar(about)
        return ("signed", told[1]) if told[0] == "signs" else ("bare", told)
    if word in ("flat", "bent"):
        told = flat_or_bar(about)
        return ("flat", told[1:]) if told[0] == "flat" else ("bent", told)
    if word in ("done", "undone"):
        told = net_or_paper(about)
        return ("done", told[1]) if told[0] == "net" else ("undone", told)
    if word in ("ring", "cut"):
        return painted(about, things[0], things[1])
    if word in ("even", "odd"):
        told = sides_or_row(about, things[0])
        return ("even" if told[0] == "sides" else "odd", told[1])
    if word in ("way", "no way"):
        told = way_or_paper(about, things[0])
        return told if told[0] == "way" else ("no way", told)
    pick = sum_by(about, things[0])
    return ("test", tested(about, things[0])) if pick is None else ("sum", pick)


def _demand_claim(claim):
    if not is_claim(claim):
        raise InvalidClaim("a claim is asked for")
