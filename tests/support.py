"""What the tests share: plain oracles over sets of lines, strange values, checks of judges and of wrong arguments."""

import itertools
import random
import unittest

from ringtables.errors import InvalidLot, InvalidNumber, InvalidOperation, Refused, TooMany
from ringtables.net.nets import Net
from ringtables.table.tables import Table

FANO = Table(7, ((0, 1, 3), (1, 2, 4), (2, 3, 5), (3, 4, 6)))
WHEEL = Net(4, ((0, 1), (0, 2), (0, 3), (1, 2), (1, 3), (2, 3)))
ROUNDS = Table(6, ((0, 1, 3), (0, 2, 4), (1, 2, 5)))
BOTH = Table(5, ((0, 1), (2, 3), (0, 2, 4)))
STARS = Table(10, ((0, 1, 2, 3), (0, 4, 5, 6), (1, 4, 7, 8), (2, 5, 7, 9)))
SPLIT = Table(7, ((0, 1, 3, 6), (0, 2, 4), (1, 2, 5, 6)))
CROSS = (1, 2, 3, 4)

# Great tables and nets.
MANY = tuple(range(24))
SINGLES = tuple((k,) for k in range(24))
NONE24 = Table(24, ())
ALL24 = Table(24, SINGLES)
EVEN24 = Table(24, tuple((k, k + 1) for k in range(23)))
ONE24 = Table(24, (MANY,))
TWOS = Table(24, tuple((2 * k, 2 * k + 1) for k in range(12)))
NONE1, ALL1 = Table(1, ()), Table(1, ((0,),))
SPOKES = Net(13, tuple((0, k) for k in range(1, 13)) + tuple(tuple(sorted((k, k % 12 + 1))) for k in range(1, 13)))


# Oracles: lots are tuples, sums are sets of them, and everything is tried.

def subsets(lines):
    lines = tuple(lines)
    return [lot for many in range(len(lines) + 1) for lot in itertools.combinations(lines, many)]


def add(*lots):
    total = set()
    for lot in lots:
        total ^= set(lot)
    return tuple(sorted(total))


def odd(one, other):
    return len(set(one) & set(other)) % 2 == 1


def sums_of(lots):
    found = {()}
    for lot in lots:
        found |= {add(lot, other) for other in found}
    return found


def opposite_of(many, sums):
    return {lot for lot in subsets(range(many)) if not any(odd(lot, other) for other in sums)}


def rings_of(sums):
    return {lot for lot in sums if lot and not any(other and set(other) < set(lot) for other in sums)}


def form_by(sums):
    heads = {lot[0] for lot in sums if lot}
    return tuple(sorted(lot for lot in sums if lot and heads & set(lot) == {lot[0]}))


def table_sums(table):
    return sums_of(table.lots)


def table_by(many, sums):
    """The table with these sums."""
    return Table(many, form_by(sums))


def parts_by(table):
    """The parts by rings alone: lines hang together if some ring has both."""
    ways = rings_of(table_sums(table))
    groups = []
    for line in range(table.many):
        group = {line}.union(*[ring for ring in ways if line in ring])
        groups.append(tuple(sorted(group)))
    return tuple(sorted(set(groups)))


def told_anew(lot, stay):
    return tuple(stay.index(line) for line in lot)


# Oracles of cuts.

def cuts_by(table):
    return sorted(rings_of(opposite_of(table.many, table.lots)))


def bridges_by(table, cut):
    """The parts of what is left without the cut, by its rings."""
    ways = rings_of({lot for lot in table_sums(table) if not set(lot) & set(cut)})
    rest = [line for line in range(table.many) if line not in cut]
    return tuple(sorted({tuple(sorted({line}.union(*[ring for ring in ways if line in ring]))) for line in rest}))


def segments_by(table, cut, bridge):
    """The lots of lines of the cut each two of which are a sum when all lines but those of both lots are joined."""
    sums = {tuple(line for line in lot if line in bridge or line in cut) for lot in table_sums(table)}
    return tuple(sorted({tuple(f for f in cut if f == e or tuple(sorted((e, f))) in sums) for e in cut}))


def facing_by(table, cut, bridge, further):
    """All right pairs of segments of two bridges, told as lots."""
    return {(one, other) for one in segments_by(table, cut, bridge) for other in segments_by(table, cut, further)
            if set(one) | set(other) == set(cut)}


def clashes_by(table, cut):
    lots = bridges_by(table, cut)
    return tuple((b, c) for b in range(len(lots)) for c in range(b + 1, len(lots))
                 if not facing_by(table, cut, lots[b], lots[c]))


def sides_by(many, pairs):
    return [bits for bits in itertools.product((0, 1), repeat=many) if all(bits[b] != bits[c] for b, c in pairs)]


def is_row_by(many, pairs, row):
    """Whether these are unlike bridges, an odd number, each clashing with the next one, the last one with the first."""
    if len(row) % 2 == 0 or len(set(row)) != len(row) or not set(row) <= set(range(many)):
        return False
    return all(tuple(sorted((row[k - 1], row[k]))) in pairs for k in range(len(row)))


def rows_by(many, pairs):
    rows = [row for count in range(1, many + 1, 2) for row in itertools.permutations(range(many), count)]
    return [row for row in rows if is_row_by(many, pairs, row)]


# Oracles of nets.

def size_counts_by(table):
    sizes = [len(lot) for lot in table_sums(table)]
    return tuple(sizes.count(k) for k in range(table.many + 1))


def is_net_by(table):
    """Whether a table of at most eight lines is a net's: none of its tables of seven lines is one of two told ones.

    These two are told by their sizes alone: the one has least distance 3, the other one sums of four lines only.
    """
    if table.many < 8:
        return size_counts_by(table) not in ((1, 0, 0, 7, 7, 0, 0, 1), (1, 0, 0, 0, 7, 0, 0, 0))
    steps = [pair for line in range(8) for pair in (((line,), ()), ((), (line,)))]
    return all(is_net_by(table_by(7, lesser_sums(table, *pair))) for pair in steps)


def whole_net(knots):
    """All lines between so many knots."""
    return Net(knots, tuple(itertools.combinations(range(knots), 2)))


def renamed_net(chance, net):
    """The net with its knots renamed, and some knots without lines."""
    knots = min(25, net.knots + chance.randint(0, 2))
    names = chance.sample(range(knots), net.knots)
    return Net(knots, tuple(tuple(sorted((names[a], names[b]))) for a, b in net.lines))


def twisted_net(chance, net):
    """The net with what hangs together beyond two knots turned round between them: its table is the same."""
    if net.knots < 3:
        return net
    low, high = chance.sample(range(net.knots), 2)
    start = chance.choice([knot for knot in range(net.knots) if knot not in (low, high)])
    lot, before = {start}, set()
    while lot != before:
        before = set(lot)
        for a, b in net.lines:
            if (a in lot or b in lot) and low != high:
                lot |= {a, b} - {low, high}
    names = {low: high, high: low}
    lines = [tuple(sorted((names.get(a, a), names.get(b, b)))) if a in lot or b in lot else (a, b)
             for a, b in net.lines]
    return Net(net.knots, tuple(lines))


def unlike_net(chance, net):
    """Some net with the same table."""
    for _ in range(chance.randint(0, 4)):
        net = twisted_net(chance, net)
    return renamed_net(chance, net)


def hanging_net(chance, knots, lines):
    """A net whose table hangs together: a ring, and ways put on to it."""
    many = chance.randint(2, knots)
    pairs = [(k, k + 1) for k in range(many - 1)] + [(0, many - 1)]
    while many < knots and len(pairs) + 3 < lines and chance.random() < 0.7:
        inner = chance.randint(1, min(2, knots - many))
        way = chance.sample(range(many), 2)
        way = [way[0]] + list(range(many, many + inner)) + [way[1]]
        pairs += [(a, b) for a, b in zip(way, way[1:])]
        many += inner
    while len(pairs) < lines and chance.random() < 0.8:
        pairs.append(tuple(chance.sample(range(many), 2)))
    chance.shuffle(pairs)
    return Net(many, tuple(tuple(sorted(pair)) for pair in pairs))


def lesser_sums(table, outs, joins):
    """The sums behind outs and joins, lines numbered anew."""
    stay = [line for line in range(table.many) if line not in outs and line not in joins]
    kept = [lot for lot in table_sums(table) if not set(lot) & set(outs)]
    return {told_anew([line for line in lot if line in stay], stay) for lot in kept}


def every_table(many):
    """One table for each set of sums that tables of so many lines have."""
    found = {frozenset([()])}
    fresh = list(found)
    while fresh:
        sums = fresh.pop()
        for lot in subsets(range(many)):
            more = frozenset(sums | {add(lot, other) for other in sums})
            if more not in found:
                found.add(more)
                fresh.append(more)
    return [table_by(many, sums) for sums in sorted(found, key=sorted)]


def small_tables(most):
    return [table for many in range(1, most + 1) for table in every_table(many)]


def picked_tables(seed, count, least, most, lots=None):
    """Some tables, always the same ones."""
    chance = random.Random(seed)
    found = []
    for _ in range(count):
        many = chance.randint(least, most)
        told = chance.randint(0, many) if lots is None else lots
        rows = [tuple(sorted(chance.sample(range(many), chance.randint(0, many)))) for _ in range(told)]
        found.append(Table(many, tuple(rows)))
    return found


def picked_nets(seed, count, knots, lines):
    chance = random.Random(seed)
    found = []
    for _ in range(count):
        many = chance.randint(1, knots)
        pairs = [tuple(sorted([chance.randrange(many), chance.randrange(many)]))
                 for _ in range(chance.randint(1, lines))]
        found.append(Net(many, tuple(pairs)))
    return found


# Strange values, of the kinds that [0.3] names.

def nest(value, deep):
    for _ in range(deep):
        value = (value,)
    return value


STRANGE = (
    None, True, False, 0, 1, -1, 24, 10 ** 59, 10 ** 60, -(10 ** 99), "", "lot", "sum", "0 1\n", "x" * 250000,
    (), (0,), (True,), (False, 1), (0, True), (1, 0), (0, 0), (-1,), (24,), (10 ** 60,), [], [0], [0, 1], [[0]],
    {}, {0: 1}, {"lot": (0,)}, {(0, 1): None}, nest(0, 7), nest((), 7), nest([], 6), [nest({}, 6)], ((0,),), ((),),
    ((0,), [1]), ("sum", (0,)), ("sum", [0]), ("sum", None), ("test", 3), ("sum",), ("sum", (0,), ()), ("ring", "x"),
    ("cut", {}), (True, (0,)), (None, None), ((), ()), ((0,), (1,)), (("out", 0),), (("join", True),),
    (("out", 0, 1),), (("out",),), ("out", 0), ((0, 1),), ((True, 1),), (("0", "1"),), ((0, None),), ((), (0,), None),
    FANO, WHEEL, (FANO,), [WHEEL], ("sum", FANO), (WHEEL, FANO), (FANO, 1), ((WHEEL, 0),), {"net": WHEEL},
    InvalidLot("a lot"), InvalidNumber(3), (Refused(("nothing",)), TooMany(24)), tuple(range(300)),
    tuple(str(k) for k in range(300)), ((0, 1),) * 300, ("lot", (0, 1)), ("bar", (0,)), ("bar", ()), ("lot", (-1,)),
)


def not_lots(many):
    """Values that are no lots of so many lines."""
    return [(many,), (0, 0), None, True, 0, "01", [], [0], {}, {0: 1}, (0, many), (-1,), (True,), (False,), ("0",),
            ((0,),), (None,), ([0],), (10 ** 59,), (-(10 ** 59),), (10 ** 60,), (0, 10 ** 99), FANO, WHEEL,
            InvalidLot("a lot")] + ([(1, 0), (False, 1), (0, True)] if many > 1 else [])


def not_numbers(least, most):
    """Values that are no integers from the least to the most one."""
    return [most + 1, least - 1, None, True, False, "0", "", (), (0,), [0], {}, {0: 0}, 10 ** 59, -(10 ** 59),
            10 ** 60, -(10 ** 99), FANO, WHEEL, InvalidNumber(0)]


NOT_TABLES = [None, (7, ((0, 1, 3),)), True, False, 0, 7, "table", "", (), ((0, 1),), [], {}, WHEEL,
              InvalidLot("a table"), 10 ** 59, -1, [FANO], (FANO,)]
NOT_NETS = [None, (4, ((0, 1),)), True, False, 0, 4, "net", "", (), ((0, 1),), [], {}, FANO, InvalidLot("a net"),
            10 ** 59, -1, [WHEEL], (WHEEL,)]


def twists(value):
    """Values that are like this one, but wrong in one place: a list, a truth value, a word instead of a number .."""
    if isinstance(value, tuple):
        yield list(value)
        yield value + (None,)
        yield {k: item for k, item in enumerate(value)}
        for k, item in enumerate(value):
            for other in twists(item):
                yield value[:k] + (other,) + value[k + 1:]
    elif isinstance(value, int):
        if value in (0, 1):
            yield bool(value)
        yield str(value)
        yield (value,)
        yield None
        yield value + 10 ** 60
    elif isinstance(value, str):
        yield value + "s"
        yield value.upper()
        yield tuple(value)
        yield 0
        yield FANO
    else:
        yield (value,)
        yield [value]
        yield "value"


class Case(unittest.TestCase):
    """A test case that knows how functions of the package are to be judged."""

    def check_error(self, error, kept, function, *args):
        """The call raises just this error, which keeps the attribute in `kept`, and changes nothing."""
        before = repr(args)
        try:
            result = function(*args)
        except Exception as caught:
            self.assertIs(type(caught), error, (function.__name__, args, caught))
            for name in kept:
                told = getattr(caught, name)
                self.assertIs(type(told), type(kept[name]))
                self.assertEqual(told, kept[name])
        else:
            self.fail(f"{function.__name__}{args!r} gave {result!r}, not {error.__name__}")
        self.assertEqual(repr(args), before)

    def check_wrong(self, function, goods, wrongs):
        """Each argument wrong alone, and each two: the first one raises. `wrongs`: (error, values), None for none.

        `goods` may be arguments that raise an error told with "then": the others come ahead of it.
        """
        for k, (error, values) in enumerate(wrongs):
            for value in values:
                args = goods[:k] + (value,) + goods[k + 1:]
                self.check_error(error, self._kept(error, value), function, *args)
        for j, k in itertools.combinations(range(len(wrongs)), 2):
            error, values = wrongs[j]
            for value, other in itertools.product(values[:4], wrongs[k][1][:4]):
                args = goods[:j] + (value,) + goods[j + 1:k] + (other,) + goods[k + 1:]
                self.check_error(error, self._kept(error, value), function, *args)

    def check_cut_wrong(self, function, goods, wrongs, at=1, no_cuts=None):
        """Like check_wrong; the argument `at` is a cut of the first one, or of its table."""
        told = list(wrongs)
        many = len(goods[0].lines) if isinstance(goods[0], Net) else goods[0].many
        told[at] = (InvalidLot, not_lots(many))
        self.check_wrong(function, goods, told)
        told[at] = (InvalidOperation, no_cuts)
        self.check_wrong(function, goods, told)

    def check_judge_wrong(self, judge, goods, right, wrongs):
        """Like check_wrong, for a judge: whatever the judged value is, a right one or another one."""
        for value in (None, right, (), 3):
            self.check_wrong(judge, goods + (value,), wrongs)

    def check_never(self, judge, goods, none=False):
        """The judge raises for no value; `none` tells whether None is a right one."""
        for value in STRANGE:
            before = repr(value)
            self.assertIn(type(judge(*goods, value)), (bool,), (judge.__name__, value))
            self.assertEqual(repr(value), before)
        for value in (True, "sum", [], {}, FANO, [()], InvalidLot("a lot")):
            self.assertIs(judge(*goods, value), False, (judge.__name__, value))
        self.assertIs(judge(*goods, None), none)

    def check_takes(self, judge, goods, value):
        """The judge takes the value, and nothing that differs from it in kind."""
        self.assertIs(judge(*goods, value), True, (judge.__name__, goods, value))
        for other in twists(value):
            self.assertIs(judge(*goods, other), False, (judge.__name__, goods, other))

    def check_judged(self, judge, goods, values, right):
        """The judge takes just those of the values that are right; their number."""
        taken = 0
        for value in values:
            self.assertIs(judge(*goods, value), bool(right(value)), (judge.__name__, goods, value))
            taken += bool(right(value))
        return taken

    def _kept(self, error, value):
        return {"given": value} if error is InvalidNumber else {}
