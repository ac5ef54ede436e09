"""Stage 9: two sides of a cut."""

import itertools
import random

from ringtables.errors import InvalidLot, InvalidNet, InvalidOperation, InvalidTable, TooMany
from ringtables.main.found import net_of
from ringtables.net.nets import Net, net_beside, pieces_of, shores, table_of
from ringtables.table.bridges import bridges, clashes, do_agree, segments
from ringtables.table.lesser import joined_by, lesser
from ringtables.table.parts import beside
from ringtables.table.rings import is_cut
from ringtables.table.sides import is_even, is_sides_or_row, is_uneven, kept, shore_sides, side_count, sides_or_row
from ringtables.table.sides import uneven
from ringtables.table.tables import Table, opposite
from tests.support import ALL1, ALL24, BOTH, CROSS, EVEN24, FANO, MANY, NONE1, NONE24, NOT_NETS, NOT_TABLES, ONE24
from tests.support import ROUNDS, SPLIT, SPOKES, STARS, TWOS, WHEEL, Case, bridges_by, clashes_by, cuts_by, hanging_net
from tests.support import is_row_by, not_lots, picked_nets, picked_tables, rows_by, segments_by, sides_by, small_tables
from tests.support import subsets, table_sums, told_anew, whole_net

CHANCE = random.Random(25)
NETS = [hanging_net(CHANCE, 6, 10) for _ in range(15)] + [WHEEL]
FOUR = (0, 2, 4, 7)
# Five bridges that clash in a row of five.
PENTAGON = Table(10, ((0, 4, 5, 9), (1, 4, 5, 7, 8, 9), (2, 4, 6, 7, 8), (3, 4, 5, 6, 7)))
FIVES = (0, 2, 3, 7, 9)
SIX = opposite(table_of(Net(6, tuple((a, b) for a in range(3) for b in range(3, 6)))))
BARRED = [STARS, PENTAGON, SIX, beside(STARS, ALL1)]
TABLES = (small_tables(3) + picked_tables(26, 15, 4, 7) + picked_tables(27, 8, 8, 9)
          + [table_of(net) for net in NETS] + [FANO, opposite(FANO), BOTH, SPLIT] + BARRED)
PAIRS = [(table, cut) for table in TABLES for cut in cuts_by(table)]
NO_CUTS = [(), (0,), (0, 1), (0, 1, 3), (0, 1, 2, 3, 4, 5)]


def groups_by(many, pairs):
    groups = [{k} for k in range(many)]
    for b, c in pairs:
        both = [group for group in groups if b in group or c in group]
        groups = [group for group in groups if group not in both] + [set().union(*both)]
    return len(groups)


class Sides(Case):
    """[9.1], [9.2], [0.12]"""

    def test_either_or(self):
        rows = 0
        for table, cut in PAIRS:
            many, pairs = len(bridges_by(table, cut)), clashes_by(table, cut)
            sides, odd = sides_by(many, pairs), rows_by(min(many, 5), pairs) if many < 6 else None
            word, told = value = sides_or_row(table, cut)
            self.assertIs(is_sides_or_row(table, cut, value), True)
            if word == "sides":
                self.assertIn(told, sides)
                self.assertFalse(odd)
            else:
                self.assertEqual((word, sides), ("row", []))
                self.assertTrue(is_row_by(many, pairs, told))
                rows += 1
            self.assertIs(is_even(table, cut), bool(sides))
            self.assertEqual(side_count(table, cut), len(sides))
            if sides:
                self.assertEqual(len(sides), 2 ** groups_by(many, pairs))
        self.assertGreater(rows, 10)

    def test_judged(self):
        for table, cut in [(ROUNDS, CROSS), (SPLIT, CROSS), (STARS, FOUR), (FANO, (2, 4, 5, 6)), (PENTAGON, FIVES),
                           (BOTH, (0, 1, 4)), (Table(2, ((0, 1),)), (0, 1)), (beside(STARS, ALL1), FOUR)]:
            many, pairs = len(bridges_by(table, cut)), clashes_by(table, cut)
            values = [("sides", bits) for k in range(many + 2) for bits in itertools.product((0, 1), repeat=k)]
            values += [("sides", (2,) * many), ("sides", (-1,) * many)] if many else []
            sides = sides_by(many, pairs)
            taken = self.check_judged(is_sides_or_row, (table, cut), values, lambda value: value[1] in sides)
            self.assertEqual(taken, len(sides))
            values = [("row", row) for k in range(min(many, 5) + 1) for row in itertools.product(range(many), repeat=k)]
            values += [("row", row + (many,)) for row in itertools.permutations(range(many), 2)]
            self.check_judged(is_sides_or_row, (table, cut), values, lambda value: is_row_by(many, pairs, value[1]))

    def test_row_of_five(self):
        pairs = clashes(PENTAGON, FIVES)
        self.assertEqual(len(pairs), 6)
        word, row = sides_or_row(PENTAGON, FIVES)
        self.assertTrue(word == "row" and is_row_by(5, pairs, row))
        row = (0, 2, 3, 4, 1)
        self.assertTrue(is_row_by(5, pairs, row))
        for k in range(5):
            self.assertIs(is_sides_or_row(PENTAGON, FIVES, ("row", row[k:] + row[:k])), True)
            self.assertIs(is_sides_or_row(PENTAGON, FIVES, ("row", (row[k:] + row[:k])[::-1])), True)
        self.assertIs(is_sides_or_row(PENTAGON, FIVES, ("row", (0, 1, 2, 3, 4))), False)

    def test_judge_takes_nothing_else(self):
        self.check_takes(is_sides_or_row, (ROUNDS, CROSS), ("sides", (1, 0)))
        self.check_takes(is_sides_or_row, (STARS, FOUR), ("row", (2, 0, 1)))
        self.check_takes(is_sides_or_row, (Table(2, ((0, 1),)), (0, 1)), ("sides", ()))
        self.check_never(is_sides_or_row, (ROUNDS, CROSS))
        self.check_never(is_sides_or_row, (STARS, FOUR))
        for value in (("row", (0,)), ("row", (0, 1)), ("row", ()), ("row", (0, 1, 2)), ("sides", (0, 0)), ("sides", ()),
                      ("sides", (0, 1, 0)), ("sides", (0, 1), ()), ("Sides", (0, 1)), ("sides", (False, True))):
            self.assertIs(is_sides_or_row(ROUNDS, CROSS, value), False)
        # A row of one bridge is none, for all that the bridge has more than two segments.
        self.assertEqual(len(segments(FANO, (2, 4, 5, 6), 0)), 4)
        self.assertIs(is_sides_or_row(FANO, (2, 4, 5, 6), ("row", (0,))), False)

    def test_edges(self):
        self.assertEqual([side_count(EVEN24, MANY), side_count(NONE1, (0,))], [1, 1])
        self.assertEqual(side_count(ONE24, (0, 1)), 2 ** 22)
        self.assertEqual(side_count(NONE24, (5,)), 2 ** 23)
        self.assertEqual(side_count(table_of(SPOKES), tuple(range(12))), 2)
        self.assertEqual(side_count(TWOS, (0, 1)), 2 ** 11)
        self.assertEqual(side_count(beside(STARS, ALL1), FOUR), 0)
        self.assertEqual(sides_or_row(EVEN24, MANY), ("sides", ()))
        self.assertIs(is_even(beside(FANO, beside(FANO, STARS)), (2, 4, 5, 6)), True)
        self.assertIs(is_even(beside(FANO, beside(FANO, STARS)), tuple(line + 14 for line in FOUR)), False)


class InNets(Case):
    """[9.3]"""

    def test_cuts_are_even(self):
        for net in NETS + picked_nets(28, 30, 6, 8):
            table = table_of(net)
            for cut in cuts_by(table):
                self.assertIs(is_even(table, cut), True)
                bits = shore_sides(net, cut)
                self.assertIs(is_sides_or_row(table, cut, ("sides", bits)), True)
                first = [shore for shore in shores(net, cut) if net.lines[cut[0]][0] in shore][0]
                second = [shore for shore in shores(net, cut) if shore != first][0]
                for bit, bridge in zip(bits, bridges(table, cut)):
                    knots = {knot for line in bridge for knot in net.lines[line]}
                    self.assertEqual(bit, 1 if knots <= set(second) else 0)
                    self.assertTrue(knots <= set(second) or not knots & set(second))

    def test_bridges_in_other_pieces(self):
        net = net_beside(WHEEL, net_beside(Net(2, ((0, 1), (0, 1))), WHEEL))
        table = table_of(net)
        self.assertEqual(len(pieces_of(net)), 3)
        told = bridges(table, CROSS)
        self.assertEqual(told, ((0,), (5,), (6, 7), tuple(range(8, 14))))
        self.assertEqual(shore_sides(net, CROSS), (0, 1, 0, 0))
        self.assertEqual([segments(table, CROSS, k) for k in (2, 3)], [(CROSS,), (CROSS,)])
        self.assertEqual(clashes(table, CROSS), ((0, 1),))
        self.assertEqual(shore_sides(net, (9, 10, 11, 12)), (0, 0, 0, 1))

    def test_edges(self):
        self.assertEqual(shore_sides(Net(2, ((0, 1),) * 24), MANY), ())
        self.assertEqual(shore_sides(Net(2, ((0, 1),)), (0,)), ())
        # A loop lies where its knot is.
        self.assertEqual(shore_sides(Net(3, ((1, 2), (1, 1), (2, 2), (0, 0))), (0,)), (0, 1, 0))
        self.assertEqual(shore_sides(SPOKES, tuple(range(12))), (1,))

    def test_wrong(self):
        self.check_wrong(shore_sides, (WHEEL, CROSS), [(InvalidNet, NOT_NETS), (InvalidLot, not_lots(6))])
        self.check_wrong(shore_sides, (WHEEL, CROSS), [(InvalidNet, NOT_NETS), (InvalidOperation, NO_CUTS)])


class Kept(Case):
    """[9.4]"""

    def test_kept(self):
        for table, cut in PAIRS[::3] + [(STARS, FOUR), (PENTAGON, FIVES), (SPLIT, CROSS)]:
            lots = bridges_by(table, cut)
            for some in subsets(range(len(lots)))[:40]:
                told, lines = kept(table, cut, some)
                self.assertEqual(lines, tuple(sorted(cut + tuple(line for k in some for line in lots[k]))))
                joins = tuple(line for line in range(table.many) if line not in lines)
                self.assertEqual((told.many, told.lots), (len(lines), told.form))
                if joins:
                    self.assertEqual(told, joined_by(table, joins))
                again = told_anew(cut, lines)
                self.assertIs(is_cut(told, again), True)
                self.assertEqual(bridges(told, again), tuple(told_anew(lots[k], lines) for k in some))
                for at, k in enumerate(some):
                    self.assertEqual(segments(told, again, at),
                                     tuple(told_anew(lot, lines) for lot in segments_by(table, cut, lots[k])))
                pairs = tuple((some.index(b), some.index(c)) for b, c in clashes(table, cut) if b in some and c in some)
                self.assertEqual(clashes(told, again), pairs)

    def test_sides_of_some(self):
        for table, cut in PAIRS[::4]:
            word, bits = sides_or_row(table, cut)
            if word == "sides":
                for some in subsets(range(len(bits)))[:20]:
                    told, lines = kept(table, cut, some)
                    value = ("sides", tuple(bits[k] for k in some))
                    self.assertIs(is_sides_or_row(told, told_anew(cut, lines), value), True)

    def test_odd_row_kept(self):
        for table, cut in ((STARS, FOUR), (PENTAGON, FIVES), (beside(STARS, ALL1), FOUR)):
            row = sides_or_row(table, cut)[1]
            told, lines = kept(table, cut, tuple(sorted(row)))
            self.assertIs(is_even(told, told_anew(cut, lines)), False)
            self.assertIsNone(net_of(told))
            self.assertIsNone(net_of(table))

    def test_edges(self):
        self.assertEqual(kept(ROUNDS, CROSS, ()), (Table(4, ((0, 1), (0, 2), (0, 3))), CROSS))
        self.assertEqual(kept(NONE1, (0,), ()), (NONE1, (0,)))
        self.assertEqual(kept(ONE24, (0, 1), tuple(range(22))), (ONE24, MANY))

    def test_wrong(self):
        tables = (InvalidTable, NOT_TABLES)
        picks = (InvalidOperation, not_lots(2) + [(1, 0), (0, 1, 2), (2,)])
        self.check_cut_wrong(kept, (ROUNDS, CROSS, (0, 1)), [tables, None, picks], no_cuts=NO_CUTS)
        picks = (InvalidOperation, [(0,), (1, 2), None])
        self.check_cut_wrong(kept, (Table(2, ((0, 1),)), (0, 1), ()), [tables, None, picks], no_cuts=[(), (0,), (1,)])


class Uneven(Case):
    """uneven, [9.5]"""

    def test_uneven(self):
        for table in TABLES:
            odd = [cut for cut in cuts_by(table) if not sides_by(len(bridges_by(table, cut)), clashes_by(table, cut))]
            value = uneven(table)
            self.assertIs(is_uneven(table, value), True)
            self.assertIs(is_uneven(table, None), not odd)
            self.assertEqual(value is None, not odd)
            if odd:
                self.assertIn(value[0], odd)

    def test_judged(self):
        for table in (STARS, SIX, ROUNDS):
            cuts = cuts_by(table)
            for cut in cuts + NO_CUTS + [(0, 1, 2)]:
                many = len(bridges_by(table, cut)) if cut in cuts else 3
                pairs = clashes_by(table, cut) if cut in cuts else ()
                rows = [(cut, row) for k in (0, 1, 2, 3) for row in itertools.product(range(min(many, 4)), repeat=k)]
                self.check_judged(is_uneven, (table,), rows,
                                  lambda value: value[0] in cuts and is_row_by(many, pairs, value[1]))

    def test_judge_takes_nothing_else(self):
        self.check_takes(is_uneven, (STARS,), (FOUR, (0, 1, 2)))
        self.check_takes(is_uneven, (PENTAGON,), (FIVES, sides_or_row(PENTAGON, FIVES)[1]))
        self.check_never(is_uneven, (STARS,))
        self.check_never(is_uneven, (ROUNDS,), none=True)
        self.assertIs(is_uneven(STARS, None), False)

    def test_fano(self):
        for cut in cuts_by(FANO):
            self.assertEqual(len(bridges(FANO, cut)), 1)
        self.assertIsNone(uneven(FANO))
        self.assertIsNone(net_of(FANO))

    def test_great(self):
        self.assertIsNone(uneven(EVEN24))
        self.assertIsNone(uneven(ALL24))
        self.assertIsNone(uneven(TWOS))
        # The opposite has 4,096 sums, and 8,192.
        self.assertIsNone(uneven(table_of(SPOKES)))
        many = beside(STARS, Table(14, tuple((k, k + 1) for k in range(8))))
        self.assertEqual(many.many - many.size, 12)
        self.assertIs(is_uneven(many, uneven(many)), True)
        more = beside(STARS, Table(14, tuple((k, k + 1) for k in range(7))))
        for table in (more, NONE24, ONE24):
            self.check_error(TooMany, {"limit": 4096}, uneven, table)
            for value in (None, (FOUR, (0, 1, 2)), 3):
                self.check_error(TooMany, {"limit": 4096}, is_uneven, table, value)
        self.assertEqual(sides_or_row(more, FOUR)[0], "row")

    def test_wrong(self):
        self.check_wrong(uneven, (FANO,), [(InvalidTable, NOT_TABLES)])
        self.check_judge_wrong(is_uneven, (STARS,), (FOUR, (0, 1, 2)), [(InvalidTable, NOT_TABLES)])


class Wrong(Case):
    def test_wrong(self):
        tables = (InvalidTable, NOT_TABLES)
        for function, more in ((sides_or_row, ()), (is_sides_or_row, (None,)), (is_sides_or_row, (("sides", (0, 1)),)),
                               (is_sides_or_row, (("row", (0, 1, 2)),)), (side_count, ()), (is_even, ())):
            self.check_cut_wrong(function, (ROUNDS, CROSS) + more, [tables, None], no_cuts=NO_CUTS)
        self.check_error(InvalidOperation, {}, sides_or_row, ALL24, (0,))


class NotTrue(Case):
    """[9.6]"""

    def test_opposite_has_none(self):
        self.assertIs(is_even(STARS, FOUR), False)
        self.assertIsNone(uneven(opposite(STARS)))

    def test_not_all_sides_are_told_by_shores(self):
        net = net_of(SPLIT)
        bits = shore_sides(net, CROSS)
        told = {bits, tuple(1 - bit for bit in bits)}
        others = [value for value in itertools.product((0, 1), repeat=3)
                  if is_sides_or_row(SPLIT, CROSS, ("sides", value)) and value not in told]
        self.assertEqual(len(others), 2)

    def test_more_bridges(self):
        self.assertEqual((len(bridges(PENTAGON, FIVES)), is_even(PENTAGON, FIVES)), (5, False))
        table = beside(STARS, ALL1)
        self.assertEqual((len(bridges(table, FOUR)), is_even(table, FOUR)), (4, False))

    def test_even_behind_each_step(self):
        self.assertIsNotNone(uneven(STARS))
        for word, line in itertools.product(("out", "join"), range(10)):
            self.assertIsNone(uneven(lesser(STARS, (word, line))))


class RingOfKnots(Case):
    """[9.1]: an odd row and sides of the same bridges, told by whole nets."""

    def test_ring_of_knots(self):
        # In the opposite of the table of five knots the ring of four knots has three bridges, each two of which clash.
        net = whole_net(5)
        ring = tuple(line for line, pair in enumerate(net.lines) if pair in ((0, 1), (1, 2), (2, 3), (0, 3)))
        table = opposite(table_of(net))
        self.assertEqual(len(bridges(table, ring)), 3)
        self.assertFalse(any(do_agree(table, ring, b, c) for b, c in itertools.combinations(range(3), 2)))
        self.assertEqual(len(table_sums(table)), 16)
