"""Stage 5: parts, and tables put together."""

import itertools

from ringtables.errors import InvalidNumber, InvalidOperation, InvalidTable, Refused, TooMany
from ringtables.net.nets import net_tied, table_of
from ringtables.table.parts import beside, does_hang, is_seam, part_table, parts, taken_apart, tied
from ringtables.table.rings import cuts, rings
from ringtables.table.tables import Table, opposite, relined
from tests.support import BOTH, FANO, NOT_TABLES, ROUNDS, Case, add, every_table, form_by, not_lots, not_numbers
from tests.support import parts_by, picked_nets, picked_tables, small_tables, subsets, sums_of, table_sums
from tests.support import told_anew

MANY = tuple(range(24))
SINGLES = tuple((k,) for k in range(24))
NONE24 = Table(24, ())
ALL24 = Table(24, SINGLES)
EVEN24 = Table(24, tuple((k, k + 1) for k in range(23)))
ONE24 = Table(24, (MANY,))
TWOS = Table(24, tuple((2 * k, 2 * k + 1) for k in range(12)))
HALF = Table(12, (tuple(range(12)),))
NONE1, ALL1 = Table(1, ()), Table(1, ((0,),))
TABLES = small_tables(4) + picked_tables(13, 25, 5, 7) + [FANO, ROUNDS, BOTH]
NOTHING = {"reason": ("nothing",)}


def tied_sums(one, line, other, further):
    shift = one.many - 1
    found = set()
    for lot, second in itertools.product(table_sums(one), table_sums(other)):
        if (line in lot) == (further in second):
            found.add(tuple(k - (k > line) for k in lot if k != line)
                      + tuple(k - (k > further) + shift for k in second if k != further))
    return found


def is_seam_by(table, lot):
    if len(parts_by(table)) != 1 or len(lot) < 2 or table.many - len(lot) < 2:
        return False
    sums = table_sums(table)
    within = [row for row in sums if set(row) <= set(lot) or not set(row) & set(lot)]
    return len(form_by(sums_of(within))) == table.size - 1


def side_sums(table, lot):
    """What each sum has within the lot, with a new line unless it is the sum of one within and one beyond."""
    sums = table_sums(table)
    inner = {row for row in sums if set(row) <= set(lot)}
    beyond = {row for row in sums if not set(row) & set(lot)}
    both = {add(row, other) for row in inner for other in beyond}
    return {told_anew([line for line in row if line in lot], lot) + (() if row in both else (len(lot),))
            for row in sums}


class Parts(Case):
    """[5.1]"""

    def test_parts(self):
        for table in TABLES:
            told = parts_by(table)
            self.assertEqual(parts(table), told)
            self.assertIs(does_hang(table), len(told) == 1)
            self.assertEqual(parts(opposite(table)), told)

    def test_great(self):
        for table in (NONE24, ALL24):
            self.assertEqual(parts(table), SINGLES)
            self.assertIs(does_hang(table), False)
        for table in (EVEN24, ONE24):
            self.assertEqual(parts(table), (MANY,))
            self.assertIs(does_hang(table), True)
        self.assertEqual(parts(TWOS), TWOS.form)
        for table in (NONE1, ALL1):
            self.assertEqual(parts(table), ((0,),))
            self.assertIs(does_hang(table), True)

    def test_wrong(self):
        for function in (parts, does_hang):
            self.check_wrong(function, (FANO,), [(InvalidTable, NOT_TABLES)])


class PartByPart(Case):
    """[5.2]"""

    def test_part_table(self):
        for table in TABLES:
            sizes = 0
            for k, lot in enumerate(parts_by(table)):
                part, lines = part_table(table, k)
                self.assertEqual(lines, lot)
                self.assertEqual(part.many, len(lot))
                self.assertEqual(part.lots, part.form)
                self.assertEqual(table_sums(part), {told_anew(row, lot) for row in table_sums(table)
                                                    if set(row) <= set(lot)})
                self.assertIs(does_hang(part), True)
                sizes += part.size
            self.assertEqual(sizes, table.size)

    def test_each_sum_is_one_choice(self):
        for table in TABLES:
            lots = parts_by(table)
            rows = [[row for row in table_sums(table) if set(row) <= set(lot)] for lot in lots]
            choices = [add(*choice) for choice in itertools.product(*rows)]
            self.assertEqual(sorted(choices), sorted(table_sums(table)))
            for ring in rings(table) + cuts(table):
                self.assertTrue(any(set(ring) <= set(lot) for lot in lots))

    def test_wrong(self):
        table = beside(BOTH, ROUNDS)
        self.check_wrong(part_table, (table, 1), [(InvalidTable, NOT_TABLES), (InvalidNumber, not_numbers(0, 1))])
        self.check_wrong(part_table, (FANO, 0), [(InvalidTable, NOT_TABLES), (InvalidNumber, not_numbers(0, 0))])
        self.assertEqual(part_table(ALL24, 23), (ALL1, (23,)))
        self.check_error(InvalidNumber, {"given": 24}, part_table, ALL24, 24)


class Beside(Case):
    """[5.3]"""

    def test_beside(self):
        chosen = small_tables(2) + picked_tables(14, 8, 3, 5)
        for one, other in itertools.product(chosen, repeat=2):
            table = beside(one, other)
            self.assertEqual(table_sums(table), {lot + tuple(line + one.many for line in second)
                                                 for lot in table_sums(one) for second in table_sums(other)})
            self.assertEqual((table.many, table.lots), (one.many + other.many, table.form))
            self.assertEqual(opposite(table), beside(opposite(one), opposite(other)))
            self.assertEqual(len(parts(table)), len(parts(one)) + len(parts(other)))

    def test_bounds(self):
        self.assertEqual(beside(HALF, HALF).form, (tuple(range(12)), tuple(range(12, 24))))
        self.assertEqual(beside(Table(23, SINGLES[:23]), ALL1), ALL24)
        self.assertEqual(beside(NONE1, Table(23, ())), NONE24)
        self.check_error(TooMany, {"limit": 24}, beside, HALF, Table(13, ()))
        self.check_error(TooMany, {"limit": 24}, beside, ALL24, NONE1)
        self.check_error(TooMany, {"limit": 24}, beside, ALL24, ALL24)

    def test_wrong(self):
        wrongs = [(InvalidTable, NOT_TABLES), (InvalidTable, NOT_TABLES)]
        self.check_wrong(beside, (FANO, BOTH), wrongs)
        self.check_wrong(beside, (ALL24, NONE24), wrongs)


class Tied(Case):
    """[5.4]"""

    def test_tied(self):
        chosen = small_tables(3) + picked_tables(15, 6, 4, 5) + [BOTH]
        for one, other in itertools.product(chosen, chosen[-9:]):
            for line, further in itertools.product(range(one.many), range(other.many)):
                if one.many + other.many == 2:
                    continue
                table = tied(one, line, other, further)
                self.assertEqual(table_sums(table), tied_sums(one, line, other, further))
                self.assertEqual((table.many, table.lots), (one.many + other.many - 2, table.form))
                self.assertEqual(opposite(table), tied(opposite(one), line, opposite(other), further))

    def test_small(self):
        tables = small_tables(2)
        for one, other in itertools.product(tables, repeat=2):
            for line, further in itertools.product(range(one.many), range(other.many)):
                if one.many + other.many == 2:
                    self.check_error(Refused, NOTHING, tied, one, line, other, further)
                else:
                    table = tied(one, line, other, further)
                    self.assertEqual(table_sums(table), tied_sums(one, line, other, further))

    def test_tied_nets(self):
        nets = [net for net in picked_nets(16, 12, 4, 5) if all(low != high for low, high in net.lines)]
        for one, other in itertools.product(nets, repeat=2):
            if len(one.lines) + len(other.lines) > 2:
                self.assertEqual(tied(table_of(one), 0, table_of(other), 0), table_of(net_tied(one, 0, other, 0, 1)))

    def test_bounds(self):
        self.assertEqual(tied(Table(13, (tuple(range(13)),)), 12, Table(13, (tuple(range(13)),)), 0), ONE24)
        self.assertEqual(tied(ONE24, 23, Table(2, ((0, 1),)), 1), ONE24)
        self.check_error(TooMany, {"limit": 24}, tied, ONE24, 0, Table(3, ()), 2)
        self.check_error(TooMany, {"limit": 24}, tied, ALL24, 0, ALL24, 23)
        self.assertEqual(tied(ALL24, 23, ALL1, 0), Table(23, SINGLES[:23]))
        self.assertEqual(tied(ALL24, 23, NONE1, 0), Table(23, SINGLES[:23]))

    def test_wrong(self):
        wrongs = [(InvalidTable, NOT_TABLES), (InvalidNumber, not_numbers(0, 6)), (InvalidTable, NOT_TABLES),
                  (InvalidNumber, not_numbers(0, 4))]
        self.check_wrong(tied, (FANO, 6, BOTH, 4), wrongs)
        wrongs[1] = wrongs[3] = (InvalidNumber, not_numbers(0, 0))
        self.check_wrong(tied, (NONE1, 0, ALL1, 0), wrongs)
        wrongs[1] = wrongs[3] = (InvalidNumber, not_numbers(0, 23))
        self.check_wrong(tied, (ALL24, 0, NONE24, 0), wrongs)


class Seams(Case):
    """[5.5], [5.6]"""

    def test_is_seam(self):
        for table in TABLES:
            self.check_judged(is_seam, (table,), subsets(range(table.many)), lambda value: is_seam_by(table, value))

    def test_strange(self):
        for table in (BOTH, ROUNDS, ALL24, EVEN24, NONE1):
            self.check_never(is_seam, (table,))
            for value in not_lots(table.many):
                self.assertIs(is_seam(table, value), False)
        self.check_takes(is_seam, (BOTH,), (0, 1))
        self.check_takes(is_seam, (BOTH,), (2, 3, 4))
        self.check_takes(is_seam, (EVEN24,), MANY[:22])
        for value in ((0,), (0, 2), (0, 1, 2, 3), ()):
            self.assertIs(is_seam(BOTH, value), False)
        # A table in several parts has no seams.
        self.assertIs(is_seam(TWOS, (0, 1)), False)
        self.assertIs(is_seam(beside(BOTH, BOTH), (0, 1)), False)

    def test_taken_apart(self):
        taken = 0
        for table in TABLES + [table for table in every_table(5) if does_hang(table)]:
            for lot in subsets(range(table.many)):
                if not is_seam_by(table, lot):
                    self.check_error(InvalidOperation, {}, taken_apart, table, lot)
                    continue
                others = tuple(line for line in range(table.many) if line not in lot)
                one, other = taken_apart(table, lot)
                self.assertEqual((one.many, other.many), (len(lot) + 1, len(others) + 1))
                self.assertEqual(table_sums(one), side_sums(table, lot))
                self.assertEqual(table_sums(other), side_sums(table, others))
                self.assertEqual((one.lots, other.lots), (one.form, other.form))
                self.assertEqual((does_hang(one), does_hang(other)), (True, True))
                # Back: tied at both new lines, lines in another sequence.
                again = tied(one, len(lot), other, len(others))
                self.assertEqual(relined(table, lot + others), again)
                taken += 1
        self.assertGreater(taken, 100)

    def test_tied_tables_have_seams(self):
        chosen = [table for many in (3, 4) for table in every_table(many) if does_hang(table)]
        for one, other in itertools.product(chosen, repeat=2):
            for line, further in ((0, 0), (one.many - 1, 1)):
                table = tied(one, line, other, further)
                self.assertIs(does_hang(table), True)
                self.assertIs(is_seam(table, tuple(range(one.many - 1))), True)

    def test_great(self):
        one, other = taken_apart(EVEN24, MANY[:12])
        self.assertEqual(one, Table(13, tuple((k, k + 1) for k in range(12))))
        self.assertEqual(one, other)
        one, other = taken_apart(ONE24, (0, 23))
        self.assertEqual((one, other), (Table(3, ((0, 1, 2),)), Table(23, (tuple(range(23)),))))

    def test_wrong(self):
        seams = [(0, 2), (0,), (0, 1, 2, 3), ()] + not_lots(5)
        self.check_wrong(taken_apart, (BOTH, (0, 1)), [(InvalidTable, NOT_TABLES), (InvalidOperation, seams)])
        self.check_wrong(is_seam, (BOTH, None), [(InvalidTable, NOT_TABLES)])
        self.check_error(InvalidOperation, {}, taken_apart, TWOS, (0, 1))
        self.check_error(InvalidOperation, {}, taken_apart, ALL1, (0,))


class NotTrue(Case):
    """[5.7]"""

    def test_two_lines_of_one_part_in_no_lot_of_the_form(self):
        table = Table(3, ((0, 2), (1, 2)))
        self.assertEqual(parts(table), ((0, 1, 2),))
        self.assertFalse(any(0 in lot and 1 in lot for lot in table.form))

    def test_size_of_a_tied_table(self):
        self.assertEqual(tied(Table(2, ((0, 1),)), 0, Table(2, ((0, 1),)), 0).size, 1)

    def test_no_seam(self):
        self.assertIs(does_hang(ROUNDS), True)
        self.assertFalse(any(is_seam(ROUNDS, lot) for lot in subsets(range(6))))
