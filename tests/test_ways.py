"""Stage 21: ways and stars that a table lets."""

import itertools
import random
import time

import ringtables.more.ways as module
from ringtables.errors import InvalidLot, InvalidNet, InvalidOperation, InvalidTable, Refused, TooMany
from ringtables.main.bars import is_bar, net_or_bar, told_table
from ringtables.main.found import net_of
from ringtables.more.ways import closed, ends_of, is_star_or_clash, is_way_in, is_way_or_paper, is_ways_or_paper
from ringtables.more.ways import star_or_clash, way_or_paper, ways_or_paper
from ringtables.net.nets import Net, is_net_of, star, table_of
from ringtables.table.parts import beside
from ringtables.table.tables import Table, opposite
from tests.support import ALL1, BOTH, CROSS, EVEN24, FANO, NONE1, NONE24, NOT_NETS, NOT_TABLES, ONE24, ROUNDS, SPLIT
from tests.support import STRANGE, WHEEL, Case, bridges_by, clashes_by, cuts_by, every_table, hanging_net, not_lots
from tests.support import picked_nets, picked_tables, rings_of, small_tables, subsets, table_sums, unlike_net

CHANCE = random.Random(121)
LOOSE = Table(4, ())
NETS = picked_nets(122, 40, 6, 8) + [hanging_net(CHANCE, 6, 9) for _ in range(10)] + [
    WHEEL, Net(2, ((0, 0), (1, 1))), Net(3, ((0, 1), (0, 1), (2, 2), (0, 2))), Net(25, ((3, 24),))]
SIX = told_table("six")


def ways_by(net):
    """All ways with the pairs of their ends, going from each knot."""
    found = {}

    def go(knots, lines):
        if lines:
            found[tuple(sorted(lines))] = tuple(sorted((knots[0], knots[-1])))
        for line, (a, b) in enumerate(net.lines):
            if knots[-1] in (a, b) and a + b - knots[-1] not in knots:
                go(knots + (a + b - knots[-1],), lines + (line,))
    for knot in range(net.knots):
        go((knot,), ())
    return found


def every_net(many):
    """For each net's table of so many lines all of its nets but for names: the ways and the stars of each."""
    found = {}
    for knots in range(1, many + 2):
        pairs = list(itertools.combinations_with_replacement(range(knots), 2))
        for lines in itertools.product(pairs, repeat=many):
            # Knots are met in their sequence, so each net comes under one of its names.
            met = list(dict.fromkeys(knot for pair in lines for knot in pair))
            if met == list(range(knots)):
                net = Net(knots, lines)
                stars = {star(net, knot) for knot in range(knots)}
                found.setdefault(table_of(net).form, []).append((set(ways_by(net)), stars))
    return found


EVERY = {many: every_net(many) for many in (1, 2, 3, 4)}


def rings_within(table, lot):
    return [ring for ring in rings_of(table_sums(table)) if set(ring) <= set(lot)]


class Ways(Case):
    """[21.1]"""

    def test_constants(self):
        self.assertEqual(module.MOST_CLOSED, 8)

    def test_ways(self):
        for net in NETS:
            told = ways_by(net)
            lots = subsets(range(len(net.lines))) + [(len(net.lines),), (0, 0)]
            taken = self.check_judged(is_way_in, (net,), lots, lambda value: value in told)
            self.assertEqual(taken, len(told))
            for lot in lots[1:-2]:
                self.assertEqual(ends_of(net, lot), told.get(lot))

    def test_edges(self):
        self.assertIs(is_way_in(WHEEL, ()), False)
        self.assertEqual(ends_of(Net(25, ((3, 24),)), (0,)), (3, 24))
        row = Net(25, tuple((k, k + 1) for k in range(24)))
        self.assertEqual([ends_of(row, tuple(range(24))), ends_of(row, (0, 2)), ends_of(row, (4, 5, 6))],
                         [(0, 24), None, (4, 7)])
        self.assertEqual([ends_of(Net(1, ((0, 0),)), (0,)), ends_of(Net(2, ((0, 1), (1, 1))), (0, 1))], [None, None])

    def test_takes_nothing_else(self):
        self.check_takes(is_way_in, (WHEEL,), (0, 4))
        for net in NETS:
            for value in STRANGE:
                right = isinstance(value, tuple) and value in list(ways_by(net))
                self.assertIs(is_way_in(net, value), right and not any(type(k) is bool for k in value))

    def test_unlike_ways(self):
        one, other = Net(4, ((0, 1), (1, 2), (2, 3))), Net(4, ((0, 1), (2, 3), (1, 2)))
        self.assertEqual(table_of(one), table_of(other))
        self.assertNotEqual(set(ways_by(one)), set(ways_by(other)))

    def test_wrong(self):
        self.check_judge_wrong(is_way_in, (WHEEL,), (0, 4), [(InvalidNet, NOT_NETS)])
        self.check_wrong(ends_of, (WHEEL, (0, 4)), [(InvalidNet, NOT_NETS), (InvalidLot, not_lots(6))])
        self.check_error(InvalidOperation, {}, ends_of, WHEEL, ())


class Closed(Case):
    """[21.2]"""

    def test_closed(self):
        for table in small_tables(3) + picked_tables(123, 40, 4, 10) + [FANO, BOTH]:
            every = subsets(range(table.many))[1:]
            for count in (1, 2, 5):
                lots = tuple(CHANCE.choice(every) for _ in range(count))
                told = closed(table, lots)
                self.assertEqual(told.many, table.many + count)
                self.assertEqual(told.lots, table.form + tuple(lot + (table.many + k,) for k, lot in enumerate(lots)))

    def test_edges(self):
        lots = ((0,), (0, 15), tuple(range(16))) * 2 + ((1,), (2,))
        table = Table(16, tuple((k,) for k in range(16)))
        self.assertEqual((closed(table, lots).many, closed(table, lots).size), (24, 24))
        self.assertEqual(len(closed(table, lots).lots), 24)
        self.assertEqual(closed(Table(23, ()), (tuple(range(23)),)), ONE24)
        self.assertEqual(closed(ALL1, ((0,),) * 8).many, 9)

    def test_wrong(self):
        lots = (InvalidLot, [None, (), [(0, 1)], ((0, 6),), ((0, 1), (1, 0)), ((0, 1), [2]), (0, 1), "01", ((True,),),
                             ((0, 1),) * 9, ((0, 1), None), 3, {}, FANO, ((0, 1), (6,)), ((-1,),), ((10 ** 60,),),
                             ((), (6,)), ((),) * 9])
        tables = (InvalidTable, NOT_TABLES)
        self.check_wrong(closed, (ROUNDS, ((0, 1),)), [tables, lots])
        self.check_wrong(ways_or_paper, (ROUNDS, ((0, 1),)), [tables, lots])
        self.check_judge_wrong(is_ways_or_paper, (ROUNDS, ((0, 1),)), ("ring", 0, (0, 1, 3)), [tables, lots])
        for function, more in ((closed, ()), (ways_or_paper, ()), (is_ways_or_paper, (None,))):
            for told in (((),), ((0, 1), ()), ((),) * 8, ((), (0,))):
                self.check_error(InvalidOperation, {}, function, ROUNDS, told, *more)
                self.check_error(InvalidOperation, {}, function, NONE24, told, *more)
            for table, count in ((NONE24, 1), (Table(23, ()), 2), (Table(17, ()), 8), (EVEN24, 8)):
                self.check_error(TooMany, {"limit": 24}, function, table, ((0,),) * count, *more)
            for table, count in ((Table(23, ()), 1), (Table(16, ()), 8), (Table(22, ()), 2)):
                function(table, ((0,),) * count, *more)


class ExactlyIf(Case):
    """[21.3], [21.4]"""

    def check_paper(self, table, lot, value):
        self.assertIs(is_way_or_paper(table, lot, value), True)
        if value[0] == "way":
            self.assertIs(is_net_of(table, value[1]), True)
            self.assertIn(lot, ways_by(value[1]))
        elif value[0] == "ring":
            self.assertIn(value[1], rings_within(table, lot))
        else:
            self.assertEqual(value[0], "bar")
            self.assertIs(is_bar(closed(table, (lot,)), value[1]), True)

    def test_by_every_net(self):
        for many, told in EVERY.items():
            for table in every_table(many):
                for lot in subsets(range(many))[1:]:
                    value = way_or_paper(table, lot)
                    self.check_paper(table, lot, value)
                    self.assertEqual(value[0] == "way", any(lot in found for found, _ in told.get(table.form, [])))

    def test_several_by_every_net(self):
        words = set()
        for many in (3, 4):
            every = subsets(range(many))[1:]
            for table in every_table(many) + [Table(many, ())] * 60:
                for _ in range(6):
                    lots = tuple(CHANCE.choice(every) for _ in range(CHANCE.randint(1, 4)))
                    value = ways_or_paper(table, lots)
                    words.add(value[0])
                    self.assertIs(is_ways_or_paper(table, lots, value), True)
                    told = [found for found, _ in EVERY[many].get(table.form, []) if set(lots) <= found]
                    self.assertEqual(value[0] == "ways", bool(told))
                    if value[0] == "ways":
                        self.assertTrue(set(lots) <= set(ways_by(value[1])) and is_net_of(table, value[1]))
        self.assertEqual(words, {"ways", "ring", "bar"})

    def test_random(self):
        words = []
        for table in [table_of(net) for net in NETS] + picked_tables(124, 30, 5, 9) + [FANO, SIX]:
            for _ in range(3):
                lot = tuple(sorted(CHANCE.sample(range(table.many), CHANCE.randint(1, min(4, table.many)))))
                value = way_or_paper(table, lot)
                words.append(value[0])
                self.check_paper(table, lot, value)
                within = rings_within(table, lot)
                is_net = not within and net_of(closed(table, (lot,))) is not None
                self.assertEqual(value[0], "ring" if within else "way" if is_net else "bar")
        self.assertGreater(min(words.count(word) for word in ("way", "ring", "bar")), 5)

    def test_ways_of_a_net(self):
        # Whatever is a way in a net, and together with others: the net itself is taken, and unlike ones.
        for net in NETS:
            told = sorted(ways_by(net))
            table = table_of(net)
            for lot in told[::5]:
                self.assertIs(is_way_or_paper(table, lot, ("way", net)), True)
                self.assertEqual(way_or_paper(table, lot)[0], "way")
                other = unlike_net(CHANCE, net)
                self.assertIs(is_way_or_paper(table, lot, ("way", other)), lot in ways_by(other))
            lots = tuple(CHANCE.choice(told) for _ in range(8)) if told else ((0,),)
            self.assertIs(is_ways_or_paper(table, lots, ("ways", net)), bool(told))
            self.assertEqual(ways_or_paper(table, lots)[0], "ways" if told else "ring")

    def test_judged(self):
        table, lots = ROUNDS, ((0, 5), (0, 1, 3), (0, 1))
        bar = net_or_bar(closed(table, ((0, 5),)))[1]
        whole = net_or_bar(closed(table, lots))[1]
        for k, lot in enumerate(lots):
            rings = rings_within(table, lot)
            values = [("ring", told) for told in subsets(range(6))] + [("way", WHEEL), ("way", net_of(table))]
            self.check_judged(is_way_or_paper, (table, lot), values, lambda value: (
                value[1] in rings if value[0] == "ring" else lot in ways_by(value[1])))
            self.check_judged(is_ways_or_paper, (table, lots), [("ring", k, told) for told in subsets(range(6))],
                              lambda value: value[2] in rings)
        self.check_takes(is_way_or_paper, (table, (0, 5)), ("bar", bar))
        self.check_takes(is_way_or_paper, (table, (0, 4)), ("way", WHEEL))
        self.check_takes(is_way_or_paper, (table, (0, 1, 3)), ("ring", (0, 1, 3)))
        self.check_takes(is_ways_or_paper, (table, lots), ("bar", whole))
        self.check_takes(is_ways_or_paper, (table, lots), ("ring", 1, (0, 1, 3)))
        self.check_takes(is_ways_or_paper, (table, ((0, 1), (0, 4))), ("ways", WHEEL))
        self.assertIs(is_way_or_paper(table, (0, 4), ("bar", bar)), False)
        self.assertIs(is_way_or_paper(table, (0, 4), ("ways", WHEEL)), False)
        self.assertIs(is_ways_or_paper(table, ((0, 4),), ("way", WHEEL)), False)
        self.assertIs(is_ways_or_paper(table, lots, ("ring", 3, (0, 1, 3))), False)
        self.assertIs(is_ways_or_paper(table, lots, ("ring", -2, (0, 1, 3))), False)
        for lot in ((0, 4), (0, 5), (0, 1, 3)):
            self.check_never(is_way_or_paper, (table, lot))
            self.check_never(is_ways_or_paper, (table, (lot, (0, 1))))
            for value in STRANGE:
                for word in ("way", "ring", "bar"):
                    right = word == "way" and value is WHEEL and lot == (0, 4)
                    self.assertIs(is_way_or_paper(table, lot, (word, value)), right)
                self.assertIs(is_ways_or_paper(table, (lot,), ("ring", value, (0, 1, 3))),
                              type(value) is int and value == 0 and lot == (0, 1, 3))
                self.assertIs(is_ways_or_paper(table, (lot,), ("ring", 0, value)), False)
                self.assertIs(is_ways_or_paper(table, (lot,), ("ways", value)), value is WHEEL and lot == (0, 4))

    def test_ring_and_bar(self):
        # Where a ring is within the lot, and the closed table has a bar, both are papers.
        lot = (0, 1, 3)
        table = FANO
        bar = net_or_bar(closed(table, (lot,)))
        self.assertIs(is_way_or_paper(table, lot, ("ring", lot)), True)
        self.assertIs(is_way_or_paper(table, lot, bar), True)

    def test_not_two_by_two(self):
        lots = ((0, 1, 2), (0, 1, 3), (0, 2, 3))
        for pair in itertools.combinations(lots, 2):
            self.assertEqual(ways_or_paper(LOOSE, pair)[0], "ways")
        self.assertEqual(ways_or_paper(LOOSE, lots)[0], "bar")

    def test_great(self):
        for table in [Table(23, ()), Table(16, ()), Table(23, (tuple(range(23)),)), beside(SIX, Table(14, ())),
                      table_of(hanging_net(CHANCE, 14, 23)), table_of(hanging_net(CHANCE, 10, 16)),
                      opposite(table_of(hanging_net(CHANCE, 9, 16)))] + picked_tables(125, 20, 16, 23):
            before = time.perf_counter()
            for count in (1, min(8, 24 - table.many)):
                lots = tuple(tuple(sorted(CHANCE.sample(range(table.many), CHANCE.randint(1, 6))))
                             for _ in range(count))
                self.assertIs(is_ways_or_paper(table, lots, ways_or_paper(table, lots)), True)
                self.assertIs(is_way_or_paper(table, lots[0], way_or_paper(table, lots[0])), True)
            self.assertLess(time.perf_counter() - before, 3)
        every = tuple(range(23))
        self.assertEqual(way_or_paper(Table(23, ()), every)[0], "way")
        self.assertEqual(way_or_paper(Table(23, (every,)), every), ("ring", every))

    def test_wrong(self):
        tables = (InvalidTable, NOT_TABLES)
        lots = (InvalidLot, not_lots(6))
        for lot in ((0, 1), ()):
            self.check_wrong(way_or_paper, (ROUNDS, lot), [tables, lots])
            if lot:
                self.check_judge_wrong(is_way_or_paper, (ROUNDS, lot), ("ring", (0, 1, 3)), [tables, lots])
        for function, more in ((way_or_paper, ()), (is_way_or_paper, (None,))):
            for table in (ROUNDS, NONE24):
                self.check_error(InvalidOperation, {}, function, table, (), *more)
            self.check_error(TooMany, {"limit": 24}, function, NONE24, (0,), *more)
            self.check_error(TooMany, {"limit": 24}, function, ONE24, tuple(range(24)), *more)
            self.check_error(InvalidLot, {}, function, NONE24, (24,), *more)
            function(Table(23, ()), (0, 22), *more)


class Stars(Case):
    """[21.5]"""

    def test_by_every_net(self):
        for many, told in EVERY.items():
            for table in every_table(many):
                if table.form in told and len(table_sums(table)) and hangs(table):
                    for cut in cuts_by(table):
                        value = star_or_clash(table, cut)
                        self.assertIs(is_star_or_clash(table, cut, value), True)
                        self.assertEqual(value[0] == "star", any(cut in stars for _, stars in told[table.form]))

    def test_star_or_clash(self):
        words = []
        for net in [hanging_net(CHANCE, 7, 11) for _ in range(25)] + [WHEEL, Net(2, ((0, 1),)), Net(2, ((0, 1),) * 24)]:
            table = table_of(net)
            for cut in cuts_by(table)[:25] if table.many < 12 else [tuple(range(24))]:
                value = star_or_clash(table, cut)
                words.append(value[0])
                self.assertIs(is_star_or_clash(table, cut, value), True)
                if table.many > 12:
                    continue
                pairs = clashes_by(table, cut)
                self.assertEqual(value[0] == "clash", bool(pairs))
                if value[0] == "clash":
                    self.assertIn(value[1:], pairs)
                else:
                    self.assertIs(is_net_of(table, value[1]), True)
                    self.assertIn(cut, [star(value[1], knot) for knot in range(value[1].knots)])
                if len(bridges_by(table, cut)) < 2:
                    for other in (net, unlike_net(CHANCE, net)):
                        self.assertIs(is_star_or_clash(table, cut, ("star", other)), True)
        self.assertGreater(min(words.count("star"), words.count("clash")), 10)

    def test_judged(self):
        for table, cut in ((ROUNDS, CROSS), (SPLIT, CROSS), (ROUNDS, (0, 1, 2))):
            pairs = clashes_by(table, cut)
            values = [("clash", i, j) for i in range(-1, 5) for j in range(-1, 5)]
            self.check_judged(is_star_or_clash, (table, cut), values, lambda value: value[1:] in pairs)
            self.check_never(is_star_or_clash, (table, cut))
        self.check_takes(is_star_or_clash, (ROUNDS, CROSS), ("clash", 0, 1))
        self.check_takes(is_star_or_clash, (ROUNDS, (0, 1, 2)), ("star", WHEEL))
        self.assertIs(is_star_or_clash(ROUNDS, CROSS, ("star", WHEEL)), False)
        for value in STRANGE:
            self.assertIs(is_star_or_clash(ROUNDS, CROSS, ("clash", 0, value)), value == 1 and type(value) is int)
            self.assertIs(is_star_or_clash(ROUNDS, (0, 1, 2), ("star", value)), value is WHEEL)
        # A net with another table, in which the lot is a star.
        self.assertIs(is_star_or_clash(ROUNDS, (0, 1, 2), ("star", Net(4, WHEEL.lines[:5] + ((1, 3),)))), False)

    def test_edges(self):
        self.assertIs(is_star_or_clash(NONE1, (0,), star_or_clash(NONE1, (0,))), True)
        self.assertIs(is_star_or_clash(NONE1, (0,), ("star", Net(25, ((3, 24),)))), True)
        for table, cut in ((ONE24, (0, 1)), (ONE24, (3, 23)), (EVEN24, tuple(range(24)))):
            self.assertIs(is_star_or_clash(table, cut, star_or_clash(table, cut)), True)

    def test_wrong(self):
        cut = [(0, 1), (0,), (), (0, 1, 2, 3, 4, 5)]
        tables = (InvalidTable, NOT_TABLES)
        self.check_cut_wrong(star_or_clash, (ROUNDS, CROSS), [tables, None], no_cuts=cut)
        for right in (None, ("clash", 0, 1)):
            self.check_cut_wrong(is_star_or_clash, (ROUNDS, CROSS, right), [tables, None], no_cuts=cut)
        for function, more in ((star_or_clash, ()), (is_star_or_clash, (None,))):
            for table, told in ((beside(ROUNDS, NONE1), CROSS), (beside(FANO, NONE1), (7,)), (Table(2, ()), (0,)),
                                (beside(ROUNDS, ALL1), CROSS)):
                self.check_error(Refused, {"reason": ("parts",)}, function, table, told, *more)
            for table in (FANO, opposite(FANO), SIX, told_table("five")):
                self.check_error(Refused, {"reason": ("net",)}, function, table, cuts_by(table)[0], *more)
                self.check_error(InvalidOperation, {}, function, table, (), *more)
                self.check_error(InvalidLot, {}, function, table, (0, 24), *more)


def hangs(table):
    """Whether each two lines are in a ring."""
    rings = rings_of(table_sums(table))
    return table.many == 1 or all(any({a, b} <= set(ring) for ring in rings)
                                  for a, b in itertools.combinations(range(table.many), 2))


class NotTrue(Case):
    """[21.6]"""

    def test_two_by_two(self):
        lots = ((0, 1, 2), (0, 1, 3), (0, 2, 3))
        found = [found for found, _ in EVERY[4][()]]
        for pair in itertools.combinations(lots, 2):
            self.assertTrue(any(set(pair) <= told for told in found))
        self.assertFalse(any(set(lots) <= told for told in found))

    def test_two_sides(self):
        self.assertEqual(clashes_by(ROUNDS, CROSS), ((0, 1),))
        self.assertEqual(star_or_clash(ROUNDS, CROSS), ("clash", 0, 1))

    def test_without_a_ring(self):
        self.assertEqual(rings_within(ROUNDS, (0, 5)), [])
        self.assertEqual(way_or_paper(ROUNDS, (0, 5))[0], "bar")
        self.assertIs(is_net_of(ROUNDS, WHEEL), True)
