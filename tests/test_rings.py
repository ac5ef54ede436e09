"""Stage 3: rings, cuts, painting."""

import itertools
import random
import time
from math import comb

from ringtables.errors import InvalidLot, InvalidNumber, InvalidOperation, InvalidTable, TooMany
from ringtables.table.rings import cuts, exchanged, is_cut, is_exchanged, is_painted, is_ring, is_ring_parts, painted
from ringtables.table.rings import ring_parts, rings, size_counts
from ringtables.table.tables import Table, is_sum, opposite, sum_count
from tests.support import BOTH, FANO, NOT_TABLES, ROUNDS, STRANGE, Case, add, not_lots, not_numbers, odd, picked_tables
from tests.support import rings_of, small_tables, subsets, table_sums

MANY = tuple(range(24))
SINGLES = tuple((k,) for k in range(24))
PAIRS = tuple((k, k + 1) for k in range(23))
NONE24 = Table(24, ())
ALL24 = Table(24, SINGLES)
EVEN24 = Table(24, PAIRS)
ONE24 = Table(24, (MANY,))
TWELVE = Table(24, tuple((k, k + 12) for k in range(12)))
THIRTEEN = Table(24, tuple((k, 23) for k in range(13)))
TABLES = small_tables(4) + picked_tables(6, 25, 5, 7) + [FANO, ROUNDS, BOTH]
FEW = picked_tables(7, 12, 4, 5) + small_tables(3) + [BOTH]


def opposite_sums(table):
    return table_sums(opposite(table))


class Least(Case):
    """[3.1]"""

    def test_rings_and_cuts(self):
        for table in TABLES:
            ways, stops = rings_of(table_sums(table)), rings_of(opposite_sums(table))
            self.assertEqual(rings(table), tuple(sorted(ways)))
            self.assertEqual(cuts(table), tuple(sorted(stops)))
            for lot in subsets(range(table.many)):
                self.assertIs(is_ring(table, lot), lot in ways)
                self.assertIs(is_cut(table, lot), lot in stops)

    def test_strange(self):
        for judge in (is_ring, is_cut):
            for table in (ROUNDS, BOTH, FANO, ALL24, NONE24, Table(1, ()), Table(1, ((0,),))):
                self.check_never(judge, (table,))
                for value in not_lots(table.many):
                    self.assertIs(judge(table, value), False)
        self.check_takes(is_ring, (ROUNDS,), (0, 1, 3))
        self.check_takes(is_cut, (ROUNDS,), (0, 1, 2))
        self.check_takes(is_ring, (Table(1, ((0,),)),), (0,))
        self.check_takes(is_cut, (Table(1, ()),), (0,))

    def test_great(self):
        # For more than 4096 sums single rings are told all the same.
        self.assertIs(is_ring(ALL24, (23,)), True)
        self.assertIs(is_ring(ALL24, (0, 23)), False)
        self.assertIs(is_ring(EVEN24, (0, 23)), True)
        self.assertIs(is_ring(EVEN24, (0, 1, 2, 23)), False)
        self.assertIs(is_ring(ONE24, MANY), True)
        self.assertIs(is_cut(ONE24, (0, 23)), True)
        self.assertIs(is_cut(EVEN24, MANY), True)
        self.assertIs(is_cut(NONE24, (7,)), True)
        self.assertEqual(rings(TWELVE), TWELVE.form)
        self.assertEqual(cuts(TWELVE), TWELVE.form)
        self.assertEqual(rings(ONE24), (MANY,))
        self.assertEqual(cuts(EVEN24), (MANY,))
        self.assertEqual((rings(NONE24), cuts(ALL24)), ((), ()))
        self.assertEqual(len(rings(Table(24, tuple((k, 23) for k in range(12))))), 12 * 13 // 2)
        for table in (THIRTEEN, ALL24, EVEN24):
            self.check_error(TooMany, {"limit": 4096}, rings, table)
        for table in (opposite(THIRTEEN), NONE24, ONE24):
            self.check_error(TooMany, {"limit": 4096}, cuts, table)

    def test_ring_parts(self):
        for table in TABLES:
            ways = rings_of(table_sums(table))
            for lot in table_sums(table):
                parts = ring_parts(table, lot)
                self.assertEqual(parts, tuple(sorted(parts)))
                self.assertTrue(set(parts) <= ways)
                self.assertEqual(tuple(sorted(line for part in parts for line in part)), lot)
                self.assertIs(is_ring_parts(table, lot, parts), True)

    def test_ring_parts_judged(self):
        for table in FEW:
            ways = sorted(rings_of(table_sums(table)))
            for lot in table_sums(table):
                values = [rows for many in range(4) for rows in itertools.permutations(ways[:9], many)]
                values += [(one, one, other) for one in ways[:4] for other in ways[:4]] + [(lot,), ((), lot)]
                self.check_judged(is_ring_parts, (table, lot), values, lambda value: (
                    list(value) == sorted(set(value)) and set(value) <= set(ways)
                    and tuple(sorted(line for part in value for line in part)) == lot))
        self.check_never(is_ring_parts, (BOTH, (0, 1, 2, 3)))
        self.check_never(is_ring_parts, (FANO, tuple(range(7))))
        self.check_takes(is_ring_parts, (BOTH, (0, 1, 2, 3)), ((0, 1), (2, 3)))
        self.check_takes(is_ring_parts, (BOTH, ()), ())
        for value in (((2, 3), (0, 1)), ((0, 1, 2, 3),), ((0, 1),), ((0, 1), (0, 1), (2, 3))):
            self.assertIs(is_ring_parts(BOTH, (0, 1, 2, 3), value), False)
        every = tuple(range(7))
        parts = [value for value in itertools.combinations(rings(FANO), 2) if is_ring_parts(FANO, every, value)]
        self.assertEqual(len(parts), 7)

    def test_great_parts(self):
        self.assertEqual(ring_parts(ALL24, MANY), SINGLES)
        parts = ring_parts(EVEN24, MANY)
        self.assertIs(is_ring_parts(EVEN24, MANY, parts), True)
        self.assertIs(is_ring_parts(EVEN24, MANY, tuple((k, 23 - k) for k in range(12))), True)
        self.assertEqual(len(parts), 12)
        self.assertEqual(ring_parts(ONE24, MANY), (MANY,))

    def test_wrong(self):
        for function in (rings, cuts, size_counts):
            self.check_wrong(function, (FANO,), [(InvalidTable, NOT_TABLES)])
        for function in (is_ring, is_cut):
            self.check_wrong(function, (FANO, None), [(InvalidTable, NOT_TABLES)])
        wrongs = [(InvalidTable, NOT_TABLES), (InvalidLot, not_lots(6))]
        for function, more in ((ring_parts, ()), (is_ring_parts, (None,))):
            self.check_wrong(function, (ROUNDS, (0, 1, 3)) + more, wrongs)
            for lot in ((0,), (0, 1), (0, 1, 2, 3, 4, 5)):
                self.check_error(InvalidOperation, {}, function, ROUNDS, lot, *more)
            self.check_wrong(function, (ROUNDS, (0, 1)) + more, wrongs)


def masks_by(table):
    """All sums, one behind the other, as numbers whose bits are the lines."""
    found = [0]
    for lot in table.form:
        mask = sum(1 << line for line in lot)
        found += [mask ^ other for other in found]
    return found


def plain_rings(table):
    """The rings by a plain listing of all sums: each one that has no ring of fewer lines within."""
    least = []
    for mask in sorted(masks_by(table), key=lambda number: bin(number).count("1"))[1:]:
        if not any(other & ~mask == 0 for other in least):
            least.append(mask)
    return tuple(sorted(tuple(line for line in range(table.many) if mask >> line & 1) for mask in least))


class ManySums(Case):
    """[3.1] for tables with 4,096 sums, the most that are let"""

    def tables(self):
        chance = random.Random(80)
        found = [Table(12, SINGLES[:12]), TWELVE, Table(13, tuple((k, 12) for k in range(12))),
                 Table(24, tuple((k, 12, 23) for k in range(12))),
                 Table(24, tuple((k, k + 1, k + 12) for k in range(12)))]
        # Equal lines: lots that have all of some lines or none.
        found.append(Table(24, tuple((2 * k, 2 * k + 1) for k in range(12))))
        found.append(Table(24, tuple((k, k + 1) for k in range(6)) + tuple((k, k + 6, k + 12) for k in range(6, 12))))
        found.append(Table(20, tuple(tuple(sorted((k, 12 + k % 8, 12 + (k + 1) % 8))) for k in range(12))))
        while len(found) < 14:
            many = chance.randint(14, 24)
            lots = tuple(tuple(sorted(chance.sample(range(many), chance.randint(1, 5)))) for _ in range(12))
            if Table(many, lots).size == 12:
                found.append(Table(many, lots))
        return found

    def test_rings_and_cuts(self):
        several = 0
        for table in self.tables():
            self.assertEqual(sum_count(table), 4096)
            right = plain_rings(table)
            told = rings(table)
            self.assertEqual(told, right)
            self.assertIs(type(told), tuple)
            self.assertEqual(told, tuple(sorted(told)))
            for ring in told[:50] + told[-50:]:
                self.assertIs(type(ring), tuple)
                self.assertEqual(ring, tuple(sorted(set(ring))))
                self.assertIs(is_ring(table, ring), True)
            self.assertEqual(cuts(opposite(table)), right)
            several += any(len(ring) > 2 for ring in told)
        self.assertGreater(several, 8)

    def test_twelve_lines(self):
        table = Table(12, SINGLES[:12])
        self.assertEqual(rings(table), SINGLES[:12])
        self.assertEqual(cuts(opposite(table)), SINGLES[:12])
        self.assertEqual((cuts(table), rings(opposite(table))), ((), ()))

    def test_fewer_sums(self):
        for table in picked_tables(81, 25, 8, 24):
            if table.size < 12:
                self.assertEqual(rings(table), plain_rings(table))
            if table.many - table.size < 12:
                self.assertEqual(cuts(table), plain_rings(opposite(table)))

    def test_more_sums(self):
        for table in (Table(13, SINGLES[:13]), THIRTEEN):
            self.check_error(TooMany, {"limit": 4096}, rings, table)
            self.check_error(TooMany, {"limit": 4096}, cuts, opposite(table))

    def test_time(self):
        # Each sum asked alone takes more than a hundred times as long; ten are asked for.
        table = Table(12, SINGLES[:12])
        other = opposite(table)
        start = time.perf_counter()
        lots = [tuple(line for line in range(12) if mask >> line & 1) for mask in masks_by(table)]
        alone = [lot for lot in lots if is_ring(table, lot)]
        slow = time.perf_counter() - start
        self.assertEqual(len(alone), 12)
        for function, told in ((rings, table), (cuts, other)):
            times = []
            for _ in range(5):
                start = time.perf_counter()
                function(told)
                times.append(time.perf_counter() - start)
            self.assertLess(10 * min(times), slow)


class RingAndCut(Case):
    """[3.2]"""

    def test_meet_evenly(self):
        for table in TABLES:
            for ring, cut in itertools.product(rings(table), cuts(table)):
                self.assertFalse(odd(ring, cut))

    def test_single_lines(self):
        for table in TABLES:
            for line in range(table.many):
                self.assertEqual(any(line in ring for ring in rings(table)), not is_cut(table, (line,)))
                self.assertEqual(any(line in cut for cut in cuts(table)), not is_ring(table, (line,)))

    def test_two_lines_of_a_ring(self):
        for table in TABLES:
            for ring in rings(table):
                for pair in itertools.combinations(ring, 2):
                    self.assertTrue(any(set(cut) & set(ring) == set(pair) for cut in cuts(table)))


class Exchanged(Case):
    """[3.3]"""

    def test_exchanged(self):
        for table in FEW + [ROUNDS, FANO]:
            ways = rings(table)
            for one, other in itertools.product(ways, repeat=2):
                for line, kept in itertools.product(set(one) & set(other), set(one) ^ set(other)):
                    value = exchanged(table, one, other, line, kept)
                    self.assertIn(value, ways)
                    self.assertTrue(kept in value and line not in value)
                    self.assertTrue(set(value) <= set(add(one, other)))
                    self.assertIs(is_exchanged(table, one, other, line, kept, value), True)

    def test_judged(self):
        for table in FEW:
            ways = rings(table)
            lots = subsets(range(table.many))
            for one, other in itertools.combinations(ways, 2):
                for line, kept in itertools.product(set(one) & set(other), set(one) ^ set(other)):
                    taken = self.check_judged(is_exchanged, (table, one, other, line, kept), lots, lambda value: (
                        value in ways and kept in value and line not in value
                        and set(value) <= set(one) | set(other)))
                    self.assertGreater(taken, 0)
        goods = (ROUNDS, (0, 1, 3), (0, 2, 4), 0, 1)
        self.check_never(is_exchanged, goods)
        self.check_takes(is_exchanged, goods, (1, 2, 3, 4))
        for value in ((1, 2, 5), (0, 1, 3), (3, 4, 5), ()):
            self.assertIs(is_exchanged(*goods, value), False)

    def test_lines_of_both_rings_may_stay(self):
        # A right ring need not lie in the sum: a line that both have, other than the told one, may be in it.
        one, other = (0, 2, 3, 5), (0, 1, 4, 5)
        self.assertEqual(add(one, other), (1, 2, 3, 4))
        self.assertIs(is_exchanged(ROUNDS, one, other, 0, 3, (1, 2, 3, 4)), True)
        self.assertIs(is_exchanged(ROUNDS, one, other, 0, 3, (3, 4, 5)), True)
        self.assertIs(is_exchanged(ROUNDS, one, other, 0, 3, (1, 2, 5)), False)

    def test_great(self):
        value = exchanged(EVEN24, (0, 23), (0, 5), 0, 23)
        self.assertEqual(value, (5, 23))
        self.assertIs(is_exchanged(EVEN24, (0, 23), (0, 5), 0, 5, (5, 23)), True)

    def test_wrong(self):
        no_rings = [(0, 1), ()] + not_lots(6) + [(0, 1, 2, 3, 4, 5), (0,), (0, 1, 2)]
        wrongs = [(InvalidTable, NOT_TABLES), (InvalidLot, no_rings), (InvalidLot, no_rings),
                  (InvalidNumber, not_numbers(0, 5)), (InvalidNumber, not_numbers(0, 5))]
        for function, more in ((exchanged, ()), (is_exchanged, (None,))):
            self.check_wrong(function, (ROUNDS, (0, 1, 3), (0, 2, 4), 0, 1) + more, wrongs)
            for line, kept in ((1, 3), (2, 1), (5, 1), (0, 0), (0, 5), (1, 0)):
                goods = (ROUNDS, (0, 1, 3), (0, 2, 4), line, kept) + more
                self.check_error(InvalidOperation, {}, function, *goods)
            self.check_error(InvalidOperation, {}, function, ROUNDS, (0, 1, 3), (0, 1, 3), 0, 1, *more)
            self.check_wrong(function, (ROUNDS, (0, 1, 3), (0, 2, 4), 5, 0) + more, wrongs)


class Painting(Case):
    """[3.4], [0.18]"""

    def test_either_or(self):
        for table in TABLES:
            ways, stops = rings(table), cuts(table)
            for line in range(table.many):
                others = [other for other in range(table.many) if other != line]
                for first in subsets(others):
                    second = [other for other in others if other not in first]
                    some = [ring for ring in ways if line in ring and set(ring) <= {line, *first}]
                    more = [cut for cut in stops if line in cut and set(cut) <= {line, *second}]
                    # Either, or; never both.
                    self.assertEqual(bool(some) + bool(more), 1)
                    word, lot = painted(table, line, first)
                    self.assertIn(lot, some if word == "ring" else more)
                    self.assertIs(is_painted(table, line, first, (word, lot)), True)

    def test_judged(self):
        for table in FEW:
            ways, stops = rings(table), cuts(table)
            lots = subsets(range(table.many))
            for line in range(table.many):
                for first in subsets([other for other in range(table.many) if other != line]):
                    self.check_judged(is_painted, (table, line, first), [("ring", lot) for lot in lots], lambda value: (
                        value[1] in ways and line in value[1] and set(value[1]) <= {line, *first}))
                    self.check_judged(is_painted, (table, line, first), [("cut", lot) for lot in lots], lambda value: (
                        value[1] in stops and line in value[1] and not set(value[1]) & set(first)))

    def test_judge_takes_nothing_else(self):
        self.check_never(is_painted, (ROUNDS, 0, (1, 3)))
        self.check_takes(is_painted, (ROUNDS, 0, (1, 3)), ("ring", (0, 1, 3)))
        self.check_takes(is_painted, (ROUNDS, 0, (1,)), ("cut", (0, 2, 3, 5)))
        self.check_takes(is_painted, (Table(1, ()), 0, ()), ("cut", (0,)))
        self.check_takes(is_painted, (Table(1, ((0,),)), 0, ()), ("ring", (0,)))
        for value in (("ring", (0, 2, 4)), ("cut", (0, 3, 4)), ("ring", (1, 2, 5)), ("cut", (0, 1, 3)), ("ring", ()),
                      ("ring", (0, 1, 3), 0), ("Ring", (0, 1, 3)), ("sum", (0, 1, 3))):
            self.assertIs(is_painted(ROUNDS, 0, (1, 3), value), False)

    def test_great(self):
        self.assertEqual(painted(ALL24, 23, ()), ("ring", (23,)))
        self.assertEqual(painted(NONE24, 23, MANY[:23]), ("cut", (23,)))
        self.assertEqual(painted(ONE24, 0, MANY[1:]), ("ring", MANY))
        self.assertEqual(painted(EVEN24, 0, ()), ("cut", MANY))
        self.assertEqual(painted(EVEN24, 0, (7,)), ("ring", (0, 7)))

    def test_wrong(self):
        wrongs = [(InvalidTable, NOT_TABLES), (InvalidNumber, not_numbers(0, 5)), (InvalidLot, not_lots(6))]
        for function, more in ((painted, ()), (is_painted, (None,))):
            self.check_wrong(function, (ROUNDS, 0, (1, 3)) + more, wrongs)
            self.check_error(InvalidOperation, {}, function, ROUNDS, 0, (0,), *more)
            self.check_error(InvalidOperation, {}, function, ROUNDS, 5, (1, 2, 5), *more)
            self.check_wrong(function, (ROUNDS, 0, (0, 1)) + more, wrongs)


class Counts(Case):
    """[3.5]"""

    def test_size_counts(self):
        for table in TABLES:
            told = [0] * (table.many + 1)
            for lot in table_sums(table):
                told[len(lot)] += 1
            self.assertEqual(size_counts(table), tuple(told))

    def test_one_size_tells_the_other(self):
        for table in TABLES:
            many, counts, more = table.many, size_counts(table), size_counts(opposite(table))
            for j in range(many + 1):
                total = sum(counts[i] * (-1) ** h * comb(i, h) * comb(many - i, j - h)
                            for i in range(many + 1) for h in range(min(i, j) + 1))
                self.assertEqual(sum_count(table) * more[j], total)

    def test_signs_of_a_lot(self):
        for table in small_tables(3) + [ROUNDS]:
            for lot in subsets(range(table.many)):
                total = sum(-1 if odd(lot, other) else 1 for other in table_sums(table))
                self.assertEqual(total, sum_count(table) if is_sum(opposite(table), lot) else 0)

    def test_great(self):
        self.assertEqual(size_counts(ALL24), tuple(comb(24, k) for k in range(25)))
        self.assertEqual(size_counts(NONE24), (1,) + (0,) * 24)
        self.assertEqual(size_counts(EVEN24), tuple((1 - k % 2) * comb(24, k) for k in range(25)))
        self.assertEqual(size_counts(ONE24), (1,) + (0,) * 23 + (1,))
        self.assertEqual(size_counts(TWELVE), tuple((1 - k % 2) * comb(12, k // 2) for k in range(25)))
        self.assertEqual(sum(size_counts(THIRTEEN)), 2 ** 13)
        self.assertEqual(size_counts(THIRTEEN)[2], 13 * 14 // 2)
        self.assertEqual(size_counts(Table(1, ())), (1, 0))
        self.assertEqual(size_counts(Table(1, ((0,),))), (1, 1))
        for table in picked_tables(8, 3, 22, 24, lots=11) + picked_tables(9, 3, 22, 24, lots=15):
            self.assertEqual(sum(size_counts(table)), sum_count(table))


class NotTrue(Case):
    """[3.6]"""

    def test_sum_of_rings(self):
        one, other = (0, 2, 4), (1, 3, 4)
        self.assertEqual([is_ring(BOTH, lot) for lot in (one, other, add(one, other))], [True, True, False])

    def test_evenly_met_is_no_cut(self):
        table = Table(2, ())
        self.assertIs(is_sum(opposite(table), (0, 1)), True)
        self.assertIs(is_cut(table, (0, 1)), False)

    def test_several_ways_to_fall_apart(self):
        every = tuple(range(7))
        found = [value for value in itertools.combinations(rings(FANO), 2) if is_ring_parts(FANO, every, value)]
        self.assertGreater(len(found), 1)

    def test_first_coloured_lines_in_a_cut(self):
        # The ring (0, 1, 3) has first-coloured lines else, and so has the cut (0, 1, 2) through 0.
        self.assertIs(is_painted(ROUNDS, 0, (1, 3), ("ring", (0, 1, 3))), True)
        self.assertIs(is_cut(ROUNDS, (0, 1, 2)), True)


class Same(Case):
    """[0.2]"""

    def test_strange(self):
        for value in STRANGE:
            if not isinstance(value, Table):
                self.check_error(InvalidTable, {}, is_ring, value, (0,))
