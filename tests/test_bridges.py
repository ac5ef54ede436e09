"""Stage 8: bridges of cuts."""

import itertools
import random

from ringtables.errors import InvalidNumber, InvalidOperation, InvalidTable
from ringtables.main.found import net_of
from ringtables.net.nets import shores, table_of
from ringtables.table.bridges import bridges, clashes, component, do_agree, facing, is_facing, segments
from ringtables.table.parts import beside, does_hang
from ringtables.table.rings import is_cut, is_ring, rings
from ringtables.table.sides import shore_sides
from ringtables.table.tables import Table, opposite
from tests.support import ALL1, ALL24, BOTH, CROSS, EVEN24, FANO, MANY, NONE1, NONE24, NOT_TABLES, ONE24, ROUNDS, SPLIT
from tests.support import SPOKES, STARS, TWOS, WHEEL, Case, bridges_by, clashes_by, cuts_by, facing_by, hanging_net
from tests.support import lesser_sums, not_numbers, picked_nets, picked_tables, segments_by, small_tables, subsets
from tests.support import table_sums, told_anew, whole_net

CHANCE = random.Random(21)
NETS = [hanging_net(CHANCE, 6, 10) for _ in range(25)] + [WHEEL]
TABLES = (small_tables(4) + picked_tables(22, 25, 5, 7) + picked_tables(23, 10, 8, 8)
          + [table_of(net) for net in NETS[:12]] + [FANO, opposite(FANO), ROUNDS, BOTH, SPLIT, STARS])
PAIRS = [(table, cut) for table in TABLES for cut in cuts_by(table)]
NO_CUTS = [(), (0,), (0, 1), (0, 1, 3), (0, 1, 2, 3, 4, 5)]


def hangs(table):
    return table.many > 1 and does_hang(table)


class Bridges(Case):
    """[8.1], [0.12]"""

    def test_bridges(self):
        for table, cut in PAIRS:
            told = bridges(table, cut)
            self.assertEqual(told, bridges_by(table, cut))
            self.assertEqual(sorted(cut + tuple(line for lot in told for line in lot)), list(range(table.many)))
            self.assertEqual(told, tuple(sorted(told)))

    def test_edges(self):
        self.assertEqual(bridges(EVEN24, MANY), ())
        self.assertEqual(bridges(NONE1, (0,)), ())
        self.assertEqual(bridges(NONE24, (7,)), tuple((k,) for k in range(24) if k != 7))
        self.assertEqual(bridges(ONE24, (3, 9)), tuple((k,) for k in range(24) if k not in (3, 9)))
        self.assertEqual(bridges(TWOS, (0, 1)), tuple((2 * k, 2 * k + 1) for k in range(1, 12)))
        self.assertEqual(bridges(table_of(SPOKES), tuple(range(12))), (tuple(range(12, 24)),))
        self.assertEqual(bridges(table_of(SPOKES), (0, 12, 23)), (tuple(k for k in range(24) if k not in (0, 12, 23)),))
        self.assertEqual(bridges(beside(ROUNDS, ALL1), CROSS), ((0,), (5,), (6,)))
        self.assertEqual(bridges(beside(NONE1, ROUNDS), (0,)), (tuple(range(1, 7)),))

    def test_no_cuts(self):
        # All lines are rings by themselves: there is no cut.
        for lot in (MANY, (0,), ()):
            self.check_error(InvalidOperation, {}, bridges, ALL24, lot)


class Components(Case):
    """[8.2]"""

    def test_component(self):
        for table, cut in PAIRS:
            for k, bridge in enumerate(bridges_by(table, cut)):
                told, lines = component(table, cut, k)
                self.assertEqual(lines, tuple(sorted(bridge + cut)))
                joins = tuple(line for line in range(table.many) if line not in lines)
                self.assertEqual(table_sums(told), lesser_sums(table, (), joins))
                self.assertEqual((told.many, told.lots), (len(lines), told.form))
                again = told_anew(cut, lines)
                self.assertIs(is_cut(told, again), True)
                self.assertEqual(bridges(told, again), (told_anew(bridge, lines),))
                if hangs(table):
                    self.assertIs(does_hang(told), True)

    def test_great(self):
        told, lines = component(ONE24, (3, 9), 0)
        self.assertEqual((told, lines), (Table(3, ((0, 1, 2),)), (0, 3, 9)))
        told, lines = component(table_of(SPOKES), tuple(range(12)), 0)
        self.assertEqual((told, lines), (table_of(SPOKES), MANY))
        # A part that is elsewhere stands beside.
        self.assertEqual(component(beside(FANO, ROUNDS), (2, 4, 5, 6), 1)[0],
                         beside(Table(4, ((0, 1), (0, 2), (0, 3))), ROUNDS))


class Segments(Case):
    """[8.3]"""

    def test_segments(self):
        for table, cut in PAIRS:
            for k, bridge in enumerate(bridges_by(table, cut)):
                told = segments(table, cut, k)
                self.assertEqual(told, segments_by(table, cut, bridge))
                self.assertEqual(tuple(sorted(line for lot in told for line in lot)), cut)
                if hangs(table):
                    self.assertGreaterEqual(len(told), 2)

    def test_no_line_of_the_cut_is_a_ring(self):
        for table, cut in PAIRS:
            for k in range(len(bridges(table, cut))):
                told, lines = component(table, cut, k)
                for one, other in itertools.combinations_with_replacement(cut, 2):
                    lot = told_anew(tuple(sorted({one, other})), lines)
                    both = any(one in lot and other in lot for lot in segments(table, cut, k))
                    self.assertEqual(is_ring(told, lot), one != other and both)

    def test_edges(self):
        self.assertEqual(segments(table_of(SPOKES), tuple(range(12)), 0), tuple((k,) for k in range(12)))
        self.assertEqual(segments(ONE24, (3, 9), 5), ((3,), (9,)))
        self.assertEqual(segments(NONE24, (7,), 0), ((7,),))
        # A bridge in another part has one segment.
        self.assertEqual(segments(beside(ROUNDS, FANO), CROSS, 2), (CROSS,))


class InNets(Case):
    """[8.4], [8.5]"""

    def feet(self, net, cut, bridge):
        """For each line of the cut the knot at which it ends when all lines but those of both are joined."""
        names = list(range(net.knots))
        for line, (low, high) in enumerate(net.lines):
            if line not in cut and line not in bridge:
                gone, name = names[low], names[high]
                names = [name if knot == gone else knot for knot in names]
        return {line: {names[knot] for knot in net.lines[line]} for line in cut}

    def test_segments_end_at_one_knot(self):
        for net in NETS:
            table = table_of(net)
            for cut in cuts_by(table):
                for k, bridge in enumerate(bridges(table, cut)):
                    feet = self.feet(net, cut, bridge)
                    for one, other in itertools.combinations(cut, 2):
                        together = any(one in lot and other in lot for lot in segments(table, cut, k))
                        self.assertEqual(together, feet[one] == feet[other])

    def test_bridges_on_one_shore_agree(self):
        clashing = 0
        for net in NETS + picked_nets(24, 25, 6, 9):
            table = table_of(net)
            for cut in cuts_by(table):
                low, high = shores(net, cut)
                told = bridges(table, cut)
                for b, c in itertools.combinations(range(len(told)), 2):
                    knots = [{knot for line in told[k] for knot in net.lines[line]} for k in (b, c)]
                    if any(knots[0] | knots[1] <= set(shore) for shore in (low, high)):
                        self.assertIs(do_agree(table, cut, b, c), True)
                    clashing += not do_agree(table, cut, b, c)
        self.assertGreater(clashing, 20)


class Agreeing(Case):
    """[0.12], [8.6]"""

    def test_agree(self):
        clashing = 0
        for table, cut in PAIRS:
            told = bridges(table, cut)
            self.assertEqual(clashes(table, cut), clashes_by(table, cut))
            for b, c in itertools.permutations(range(len(told)), 2):
                pairs = facing_by(table, cut, told[b], told[c])
                self.assertIs(do_agree(table, cut, b, c), bool(pairs))
                value = facing(table, cut, b, c)
                self.assertTrue(value in pairs if pairs else value is None)
                self.assertIs(is_facing(table, cut, b, c, value), True)
                self.assertIs(is_facing(table, cut, b, c, None), not pairs)
                clashing += not pairs
                if len(pairs) > 1 and hangs(table):
                    self.assertEqual(segments(table, cut, b), segments(table, cut, c))
                    self.assertEqual(len(segments(table, cut, b)), 2)
        self.assertGreater(clashing, 50)

    def test_judged(self):
        for table, cut in [(ROUNDS, CROSS), (SPLIT, CROSS), (STARS, (0, 2, 4, 7)), (BOTH, (0, 1, 4)),
                           (beside(ROUNDS, NONE1), CROSS), (Table(4, ((0, 1, 2, 3),)), (0, 1))]:
            told = bridges(table, cut)
            values = list(itertools.product(subsets(cut), repeat=2)) + [(), cut, (cut,), (cut, cut, cut), None]
            for b, c in itertools.permutations(range(len(told)), 2):
                pairs = facing_by(table, cut, told[b], told[c])
                self.check_judged(is_facing, (table, cut, b, c), values,
                                  lambda value: value in pairs if pairs else value is None)

    def test_judge_takes_nothing_else(self):
        self.check_takes(is_facing, (SPLIT, CROSS, 0, 2), ((1, 2), (2, 3, 4)))
        self.check_takes(is_facing, (beside(ROUNDS, NONE1), CROSS, 2, 0), (CROSS, (1, 2)))
        self.check_takes(is_facing, (Table(4, ((0, 1, 2, 3),)), (0, 1), 0, 1), ((0,), (1,)))
        self.assertIs(is_facing(Table(4, ((0, 1, 2, 3),)), (0, 1), 0, 1, ((False,), (True,))), False)
        for goods in ((SPLIT, CROSS, 0, 2), (SPLIT, CROSS, 0, 1)):
            for value in ((), True, "sum", [], {}, FANO, ((1, 2), (1, 2)), ((1, 2), (3, 4)), ((2, 3, 4), (1, 2))):
                self.assertIs(is_facing(*goods, value), False)
        self.assertIs(is_facing(SPLIT, CROSS, 0, 2, None), False)

    def test_judge_never_raises(self):
        self.check_never(is_facing, (SPLIT, CROSS, 0, 2))
        self.check_never(is_facing, (ONE24, (0, 1), 0, 1))
        self.check_never(is_facing, (SPLIT, CROSS, 0, 1), none=True)

    def test_great(self):
        table = table_of(whole_net(7))
        star = (0, 1, 2, 3, 4, 5)
        self.assertEqual(clashes(table, star), ())
        cut = tuple(line for line, pair in enumerate(whole_net(7).lines) if len({0, 1, 2} & set(pair)) == 1)
        self.assertEqual(len(bridges(table, cut)), 2)
        self.assertEqual(clashes(table, cut), ((0, 1),))
        self.assertEqual(clashes(ONE24, (0, 23)), ())
        self.assertEqual(facing(ONE24, (0, 23), 20, 21), ((0,), (23,)))


class Wrong(Case):
    def test_wrong(self):
        tables = (InvalidTable, NOT_TABLES)
        for function in (bridges, clashes):
            self.check_cut_wrong(function, (ROUNDS, CROSS), [tables, None], no_cuts=NO_CUTS)
        numbers = (InvalidNumber, not_numbers(0, 1))
        for function in (component, segments):
            self.check_cut_wrong(function, (ROUNDS, CROSS, 1), [tables, None, numbers], no_cuts=NO_CUTS)
        for function, more in ((do_agree, ()), (facing, ()), (is_facing, (None,)), (is_facing, ((CROSS, CROSS),))):
            goods = (ROUNDS, CROSS, 0, 1) + more
            self.check_cut_wrong(function, goods, [tables, None, numbers, numbers], no_cuts=NO_CUTS)
            for k in (0, 1):
                self.check_error(InvalidOperation, {}, function, ROUNDS, CROSS, k, k, *more)
                self.check_cut_wrong(function, (ROUNDS, CROSS, k, k) + more, [tables, None, numbers, numbers],
                                     no_cuts=NO_CUTS)

    def test_no_bridge(self):
        for function in (component, segments):
            self.check_error(InvalidNumber, {"given": 0}, function, Table(2, ((0, 1),)), (0, 1), 0)
        self.check_error(InvalidNumber, {"given": 0}, do_agree, NONE1, (0,), 0, 0)
        self.check_error(InvalidNumber, {"given": 1}, do_agree, FANO, (2, 4, 5, 6), 0, 1)


class NotTrue(Case):
    """[8.7]"""

    def test_bridges_that_agree_on_unlike_shores(self):
        # The third bridge agrees with both others, which clash: so it is on another shore than one of them.
        net = net_of(SPLIT)
        bits = shore_sides(net, CROSS)
        self.assertEqual((do_agree(SPLIT, CROSS, 0, 2), do_agree(SPLIT, CROSS, 1, 2)), (True, True))
        self.assertTrue(bits[0] != bits[2] or bits[1] != bits[2])

    def test_agreeing_is_not_led_on(self):
        told = [do_agree(SPLIT, CROSS, b, c) for b, c in ((0, 2), (2, 1), (0, 1))]
        self.assertEqual(told, [True, True, False])

    def test_bridge_that_is_neither_ring_nor_line(self):
        table = table_of(whole_net(5))
        told = bridges(table, (0, 1, 2, 3))
        self.assertEqual(told, ((4, 5, 6, 7, 8, 9),))
        self.assertNotIn(told[0], rings(table))
