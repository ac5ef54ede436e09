"""Stage 10: cuts that must be stars."""

import itertools
import random

from ringtables.errors import InvalidNet, InvalidOperation, InvalidTable, Refused, TooMany
from ringtables.main.found import net_of
from ringtables.net.nets import Net, star, table_of
from ringtables.table.bridges import bridges
from ringtables.table.parts import beside, does_hang
from ringtables.table.stars import is_net_three_or_cut, is_star_cut, net_three_or_cut, star_cuts, star_knots, star_net
from ringtables.table.stars import told_cuts
from ringtables.table.tables import Table, is_sum, opposite, relined
from tests.support import ALL1, ALL24, BOTH, CROSS, EVEN24, FANO, MANY, NONE1, NONE24, NOT_NETS, NOT_TABLES, ONE24
from tests.support import ROUNDS, SPLIT, SPOKES, STARS, TWOS, WHEEL, Case, add, bridges_by, cuts_by, every_table
from tests.support import form_by, hanging_net, is_net_by, opposite_of, parts_by, picked_tables, sums_of, table_sums
from tests.support import unlike_net, whole_net

CHANCE = random.Random(29)
NETS = [hanging_net(CHANCE, 6, 9) for _ in range(25)] + [WHEEL, Net(2, ((0, 1), (0, 1)))]
TABLES = [table for table in [table for many in (2, 3, 4) for table in every_table(many)] + picked_tables(30, 40, 5, 8)
          + [table_of(net) for net in NETS] + [FANO, opposite(FANO), ROUNDS, BOTH, SPLIT, STARS, opposite(STARS)]
          if len(parts_by(table)) == 1]
APART = [NONE1, ALL1, Table(3, ((0, 1),)), TWOS, NONE24, ALL24, beside(FANO, ALL1), Table(2, ())]
NO_CUTS = [(), (0,), (0, 1), (0, 1, 3), (0, 1, 2, 3, 4, 5)]
PARTS = {"reason": ("parts",)}


def stars_by(table):
    return [cut for cut in cuts_by(table) if len(bridges_by(table, cut)) < 2]


class StarCuts(Case):
    """[10.1]"""

    def test_star_cuts(self):
        for table in TABLES:
            told = stars_by(table)
            self.assertEqual(star_cuts(table), tuple(told))
            for cut in cuts_by(table):
                self.assertIs(is_star_cut(table, cut), cut in told)

    def test_star_in_each_net(self):
        for net in NETS:
            for _ in range(3):
                other = unlike_net(CHANCE, net)
                stars = [star(other, knot) for knot in range(other.knots)]
                for cut in stars_by(table_of(net)):
                    self.assertIn(cut, stars)

    def test_star_with_several_bridges(self):
        net = Net(4, ((0, 1), (0, 1), (1, 2), (0, 3), (2, 3), (0, 2)))
        table = table_of(net)
        told = [star(net, knot) for knot in range(4) if star(net, knot) in cuts_by(table)]
        self.assertTrue(any(len(bridges(table, cut)) > 1 for cut in told))

    def test_great(self):
        self.assertEqual(star_cuts(EVEN24), (MANY,))
        spokes = table_of(SPOKES)
        self.assertEqual(star_cuts(spokes), tuple(sorted(star(SPOKES, knot) for knot in range(13))))
        self.assertIs(is_star_cut(ONE24, (0, 1)), False)
        self.assertIs(is_star_cut(Table(3, ((0, 1, 2),)), (0, 1)), True)
        # The opposite has 4,096 sums, and 8,192.
        more = Table(24, tuple((k, k + 1, k + 2) for k in range(0, 20, 2)) + ((20, 21, 22, 23),))
        self.assertEqual(24 - more.size, 13)
        for table in (ONE24, more):
            self.assertIs(does_hang(table), True)
            self.check_error(TooMany, {"limit": 4096}, star_cuts, table)
        self.check_error(Refused, PARTS, star_cuts, NONE24)


class Three(Case):
    """[10.2]"""

    def test_three_star_cuts_with_a_line(self):
        barred = 0
        for table in TABLES:
            told = stars_by(table)
            if any(sum(line in cut for cut in told) > 2 for line in range(table.many)):
                self.assertIsNone(net_of(table))
                if table.many < 9:
                    self.assertIs(is_net_by(table), False)
                barred += 1
        self.assertGreater(barred, 1)


class ToldCuts(Case):
    """[10.3]"""

    def test_told_cuts(self):
        for table in TABLES:
            told = told_cuts(table)
            self.assertEqual(told, form_by(opposite_of(table.many, table.lots)))
            self.assertTrue(set(told) <= set(cuts_by(table)))
            self.assertEqual(sums_of(told), opposite_of(table.many, table.lots))

    def test_great(self):
        self.assertEqual(told_cuts(EVEN24), (MANY,))
        self.assertEqual(told_cuts(ONE24), tuple((k, 23) for k in range(23)))


class StarNet(Case):
    """[10.4], [10.5]"""

    def test_star_net(self):
        nets, threes, others = 0, 0, 0
        for table in TABLES:
            told, stars = told_cuts(table), stars_by(table)
            wrong = [cut for cut in told if cut not in stars]
            found = [[k for k, cut in enumerate(told) if line in cut] for line in range(table.many)]
            three = [line for line in range(table.many) if len(found[line]) > 2]
            value = net_three_or_cut(table)
            self.assertIs(is_net_three_or_cut(table, value), True)
            if wrong:
                self.check_error(Refused, {"reason": ("bridges", wrong[0])}, star_net, table)
                others += 1
            elif three:
                self.check_error(Refused, {"reason": ("three", three[0])}, star_net, table)
                self.assertEqual(value[0], "three")
                self.assertIsNone(net_of(table))
                threes += 1
            else:
                net = star_net(table)
                lines = tuple(tuple(ends) if len(ends) == 2 else (ends[0], len(told)) for ends in found)
                self.assertEqual((net.knots, net.lines), (len(told) + 1, lines))
                self.assertEqual(table_of(net), table)
                self.assertEqual([star(net, k) for k in range(len(told))], list(told))
                self.assertEqual(value[0], "net")
                nets += 1
        self.assertGreater(min(nets, others), 15)
        self.assertGreater(threes, 1)

    def test_line_in_four_told_cuts(self):
        table = Table(13, ((0, 9, 12), (1, 10, 11), (2, 9, 10), (3, 9, 11, 12), (4, 9, 10, 11, 12), (5, 9), (6, 9, 11),
                           (7, 10, 11, 12), (8, 10, 11)))
        told = told_cuts(table)
        self.assertTrue(all(is_star_cut(table, cut) for cut in told))
        # A line ahead is in three of them, some line is in four: three are told.
        self.assertEqual(max(sum(line in cut for cut in told) for line in range(13)), 4)
        order = (9,) + tuple(line for line in range(13) if line != 9)
        for again in (table, relined(table, order)):
            word, line, cuts = net_three_or_cut(again)
            self.assertEqual((word, len(cuts)), ("three", 3))
            self.assertIs(is_net_three_or_cut(again, (word, line, cuts)), True)

    def test_great(self):
        self.assertEqual(star_net(EVEN24), Net(2, ((0, 1),) * 24))
        spokes = table_of(SPOKES)
        value = net_three_or_cut(spokes)
        self.assertIs(is_net_three_or_cut(spokes, value), True)
        self.assertIs(is_net_three_or_cut(spokes, ("net", SPOKES)), True)
        self.check_error(Refused, {"reason": ("bridges", (0, 23))}, star_net, ONE24)
        self.assertIs(is_net_three_or_cut(ONE24, ("cut", (4, 7))), True)
        self.assertEqual(net_three_or_cut(ONE24)[0], "cut")


class Judged(Case):
    """is_net_three_or_cut"""

    def test_cuts_and_threes(self):
        for table in [FANO, opposite(FANO), ROUNDS, BOTH, SPLIT, Table(2, ((0, 1),)), STARS]:
            cuts, stars = cuts_by(table), stars_by(table)
            lots = cuts + [(), (0,), (0, 1), tuple(range(table.many)), (table.many,)]
            self.check_judged(is_net_three_or_cut, (table,), [("cut", lot) for lot in lots],
                              lambda value: value[1] in cuts and value[1] not in stars)
            lots = (stars + [cut for cut in cuts if cut not in stars] + [(0, 1)])[:7]
            values = [("three", line, rows) for k in (2, 3) for rows in itertools.product(lots, repeat=k)
                      for line in range(-1, table.many + 1)]
            self.check_judged(is_net_three_or_cut, (table,), values, lambda value: (
                len(value[2]) == 3 and value[2][0] < value[2][1] < value[2][2]
                and all(cut in stars and value[1] in cut for cut in value[2])))

    def test_nets(self):
        for net in NETS:
            for _ in range(3):
                other = unlike_net(CHANCE, net)
                for table in (table_of(net), ROUNDS):
                    right = table_of(other) == table
                    self.assertIs(is_net_three_or_cut(table, ("net", other)), right)

    def test_judge_takes_nothing_else(self):
        cuts = told_cuts(FANO)
        self.check_takes(is_net_three_or_cut, (FANO,), ("three", 5, cuts))
        for line in (0, 1):
            with_line = tuple(cut for cut in cuts_by(FANO) if line in cut)
            self.check_takes(is_net_three_or_cut, (FANO,), ("three", line, with_line[1:]))
        self.check_takes(is_net_three_or_cut, (ROUNDS,), ("cut", CROSS))
        self.check_takes(is_net_three_or_cut, (ROUNDS,), ("net", WHEEL))
        for table in (FANO, ROUNDS, EVEN24, STARS):
            self.check_never(is_net_three_or_cut, (table,))
        for value in (("three", 5, cuts[::-1]), ("three", 5, cuts[:2]), ("three", 5, cuts + cuts[:1]), ("cut", cuts[0]),
                      ("three", 0, cuts), ("net", None), ("three", cuts), ("three", 5, cuts, 5),
                      ("three", 5, (cuts[0],) * 3)):
            self.assertIs(is_net_three_or_cut(FANO, value), False)


class Knots(Case):
    """[10.6]"""

    def test_star_knots(self):
        for net in NETS:
            table = table_of(net)
            told = stars_by(table)
            for _ in range(3):
                other = unlike_net(CHANCE, net)
                stars = [star(other, knot) for knot in range(other.knots)]
                self.assertEqual(star_knots(table, other), tuple(lot if lot in told else None for lot in stars))
                for lot in stars:
                    if lot:
                        rest = [lot for lot in parts_left(table, lot)]
                        self.assertEqual(lot in told, len(rest) < 2)

    def test_great(self):
        self.assertEqual(star_knots(table_of(SPOKES), SPOKES), tuple(star(SPOKES, knot) for knot in range(13)))
        self.assertEqual(star_knots(EVEN24, Net(25, ((3, 7),) * 24)),
                         tuple(MANY if knot in (3, 7) else None for knot in range(25)))


def parts_left(table, lot):
    """The parts of what is left without the lines of the lot."""
    rest = [line for line in range(table.many) if line not in lot]
    if not rest:
        return ()
    sums = {tuple(rest.index(line) for line in row) for row in table_sums(table) if not set(row) & set(lot)}
    return parts_by(Table(len(rest), form_by(sums)))


class Wrong(Case):
    def test_wrong(self):
        tables = (InvalidTable, NOT_TABLES)
        three = ("three", 5, told_cuts(FANO))
        for function, more in ((told_cuts, ()), (star_net, ()), (net_three_or_cut, ()), (star_cuts, ()),
                               (is_net_three_or_cut, (None,)), (is_net_three_or_cut, (three,)),
                               (is_net_three_or_cut, (("net", WHEEL),)), (is_net_three_or_cut, (("cut", CROSS),))):
            self.check_wrong(function, (FANO,) + more, [tables])
            for table in APART:
                self.check_error(Refused, PARTS, function, table, *more)
        self.check_error(Refused, PARTS, is_net_three_or_cut, NONE1, ("net", Net(2, ((0, 1),))))
        self.check_cut_wrong(is_star_cut, (ROUNDS, CROSS), [tables, None], no_cuts=NO_CUTS)
        nets = (InvalidNet, NOT_NETS)
        self.check_wrong(star_knots, (ROUNDS, WHEEL), [tables, nets])
        others = (InvalidOperation, [whole_net(3), Net(4, WHEEL.lines[::-1][1:]), Net(6, WHEEL.lines + ((4, 5),)),
                                     Net(4, WHEEL.lines[1:] + WHEEL.lines[:1])])
        self.check_wrong(star_knots, (ROUNDS, WHEEL), [tables, others])

    def test_parts_come_behind(self):
        table = beside(ROUNDS, ALL1)
        tables = (InvalidTable, NOT_TABLES)
        self.check_error(Refused, PARTS, is_star_cut, table, CROSS)
        self.check_error(Refused, PARTS, is_star_cut, NONE1, (0,))
        self.check_cut_wrong(is_star_cut, (table, CROSS), [tables, None], no_cuts=NO_CUTS + [(6,)])
        net = Net(4, WHEEL.lines + ((0, 0),))
        self.check_error(Refused, PARTS, star_knots, table, net)
        self.check_wrong(star_knots, (table, net), [tables, (InvalidNet, NOT_NETS)])
        self.check_error(InvalidOperation, {}, star_knots, table, WHEEL)


class NotTrue(Case):
    """[10.7]"""

    def test_star_cuts_and_no_net(self):
        self.assertTrue(all(is_star_cut(FANO, cut) for cut in told_cuts(FANO)))
        self.assertIsNone(net_of(FANO))

    def test_star_that_is_none(self):
        net = Net(4, ((0, 1), (0, 1), (1, 2), (0, 3), (2, 3), (0, 2)))
        self.assertIn(None, star_knots(table_of(net), net))
        self.assertIs(is_sum(opposite(table_of(net)), star(net, 0)), True)

    def test_line_in_three_cuts(self):
        self.assertGreater(len([cut for cut in cuts_by(ROUNDS) if 0 in cut]), 2)
        self.assertIsNotNone(net_of(ROUNDS))

    def test_sum_of_told_cuts(self):
        # The last knot's star is the sum of all told cuts.
        net = star_net(ROUNDS)
        self.assertEqual(star(net, net.knots - 1), add(*told_cuts(ROUNDS)))
