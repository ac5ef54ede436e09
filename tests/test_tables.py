"""Stage 2: tables."""

import itertools

from ringtables.errors import InvalidLot, InvalidOperation, InvalidTable, TooMany
from ringtables.net.nets import Net
from ringtables.table import tables as module
from ringtables.table.tables import Table, common, is_lot, is_sum, is_test, is_within, joint, opposite, order_back
from ringtables.table.tables import relined, sum_by, sum_count, sums, tested
from tests.support import BOTH, FANO, NOT_TABLES, ROUNDS, STRANGE, WHEEL, Case, add, every_table, form_by, not_lots
from tests.support import not_numbers, odd, opposite_of, picked_tables, small_tables, subsets, sums_of, table_sums

MANY = tuple(range(24))
SINGLES = tuple((k,) for k in range(24))
NONE24 = Table(24, ())
ALL24 = Table(24, SINGLES)
TWELVE = Table(24, SINGLES[:12])
THIRTEEN = Table(24, SINGLES[:13])
GREAT = [NONE24, ALL24, TWELVE, THIRTEEN, Table(24, ((),) * 24), Table(24, (MANY,) * 24),
         Table(24, tuple((k, k + 1) for k in range(23)))]
TABLES = small_tables(3) + picked_tables(2, 40, 4, 7) + [FANO, ROUNDS, BOTH]


class Constants(Case):
    def test_constants(self):
        self.assertEqual((module.MOST_TABLE_LOTS, module.MOST_SUMS), (24, 4096))


class Made(Case):
    """class Table"""

    def test_properties(self):
        for many, lots in ((1, ()), (1, ((),)), (1, ((0,), (0,), ())), (6, ((0, 1, 3), (0, 2, 4), (1, 2, 5))),
                           (24, ((),) * 24), (24, SINGLES), (24, (MANY,))):
            table = Table(many, lots)
            self.assertEqual((table.many, table.lots), (many, lots))
            self.assertEqual(table.size, len(table.form))
            self.assertEqual(str(table), f"table of {many} lines, size {len(table.form)}")
            if table.size < 10:
                self.assertEqual(table.form, form_by(sums_of(lots)))
        self.assertEqual(ALL24.form, SINGLES)

    def test_equal(self):
        for many in (1, 2, 3):
            for one, other in itertools.product(every_table(many), repeat=2):
                self.assertIs(one == other, table_sums(one) == table_sums(other))
                self.assertIs(one != other, not one == other)
                self.assertIs(one == other, one.form == other.form)
        self.assertIs(Table(2, ((0, 1), (1,))) == Table(2, ((0,), (1,), (1,), ())), True)
        self.assertIs(Table(2, ()) == Table(3, ()), False)
        self.assertIs(Table(2, ()) != Table(3, ()), True)

    def test_equal_takes_every_value(self):
        for value in STRANGE + ((2, ((0, 1),)), Net(2, ((0, 1),)), 1.5, object(), Table):
            if not (isinstance(value, Table) and value.many == 7):
                self.assertIs(FANO == value, False)
                self.assertIs(FANO != value, True)
                self.assertIs(value == FANO, False)
                self.assertIs(FANO in [value], False)
        self.assertIs(FANO in [None, WHEEL, Table(7, FANO.form)], True)

    def test_no_change(self):
        for name in ("many", "lots", "form", "size"):
            with self.assertRaises(AttributeError):
                setattr(FANO, name, 3)
        self.assertEqual((FANO.many, FANO.size), (7, 4))

    def test_not_iterated(self):
        self.assertRaises(TypeError, iter, FANO)
        with self.assertRaises(TypeError):
            list(FANO)

    def test_wrong(self):
        lots = [[(0, 1)], ((0, 3),), None, ((1, 0),), True, 0, "01", {}, {(0, 1): 1}, ((0, 1), [2]), ((0,), (True,)),
                (0, 1), ((0,), None), ((0, 0),), ((-1,),), ((),) * 25, (((0,),),), ((10 ** 60,),), "", ("01",), FANO]
        self.check_wrong(Table, (3, ((0, 1),)), [(InvalidTable, not_numbers(1, 24)), (InvalidTable, lots)])
        self.check_error(InvalidTable, {}, Table, 24, ((24,),))
        self.check_error(InvalidTable, {}, Table, 25, ())


class Sums(Case):
    """[2.1]"""

    def test_sums(self):
        for table in TABLES:
            told = sums(table)
            self.assertEqual(told, tuple(sorted(table_sums(table))))
            self.assertEqual(sum_count(table), len(told))
            self.assertEqual(sum_count(table), 2 ** table.size)

    def test_is_sum_and_sum_by(self):
        for table in TABLES:
            told = table_sums(table)
            for lot in subsets(range(table.many)):
                self.assertIs(is_sum(table, lot), lot in told)
                pick = sum_by(table, lot)
                self.assertEqual(pick is not None, lot in told)
                if pick is not None:
                    self.assertEqual(add(*[table.form[k] for k in pick]), lot)
                    self.assertEqual(pick, tuple(k for k, row in enumerate(table.form) if row[0] in lot))
        # By the form, not by the lots that were passed.
        self.assertEqual(sum_by(Table(2, ((0, 1), (0,))), (0, 1)), (0, 1))

    def test_many_sums(self):
        self.assertEqual(len(sums(TWELVE)), 4096)
        self.assertEqual(sums(TWELVE)[-1], (11,))
        for table, count in ((THIRTEEN, 2 ** 13), (ALL24, 2 ** 24), (TWELVE, 4096), (NONE24, 1)):
            self.assertEqual(sum_count(table), count)
            if count > 4096:
                self.check_error(TooMany, {"limit": 4096}, sums, table)
        self.assertEqual(sums(NONE24), ((),))
        self.assertIs(is_sum(ALL24, MANY), True)
        self.assertEqual(sum_by(ALL24, MANY), MANY)
        self.assertIs(sum_by(NONE24, MANY), None)
        self.assertEqual(sum_by(NONE24, ()), ())

    def test_is_lot(self):
        for table in (Table(1, ()), FANO, ALL24):
            self.check_never(is_lot, (table,))
            self.check_takes(is_lot, (table,), (0,))
            self.check_takes(is_lot, (table,), tuple(range(table.many)))
            self.assertIs(is_lot(table, ()), True)
            for value in not_lots(table.many):
                self.assertIs(is_lot(table, value), False)

    def test_wrong(self):
        for function in (sums, sum_count, opposite):
            self.check_wrong(function, (FANO,), [(InvalidTable, NOT_TABLES)])
        self.check_wrong(is_lot, (FANO, None), [(InvalidTable, NOT_TABLES)])
        for function in (is_sum, sum_by, tested):
            self.check_wrong(function, (FANO, (0,)), [(InvalidTable, NOT_TABLES), (InvalidLot, not_lots(7))])


class Opposites(Case):
    """[2.2]"""

    def test_opposite(self):
        for table in TABLES:
            other = opposite(table)
            self.assertEqual(other.many, table.many)
            self.assertEqual(set(sums(other)), opposite_of(table.many, table_sums(table)))
            self.assertEqual(other.lots, other.form)
            self.assertEqual(other.size + table.size, table.many)
            self.assertEqual(opposite(other), table)

    def test_great(self):
        self.assertEqual(opposite(NONE24), ALL24)
        self.assertEqual(opposite(ALL24), NONE24)
        self.assertEqual(opposite(TWELVE), Table(24, SINGLES[12:]))
        for table in GREAT:
            self.assertEqual(opposite(opposite(table)), table)

    def test_tests(self):
        for table in small_tables(4):
            other = table_sums(opposite(table))
            for lot in subsets(range(table.many)):
                right = [value for value in other if odd(value, lot)]
                self.check_judged(is_test, (table, lot), subsets(range(table.many)), lambda value: value in right)
                value = tested(table, lot)
                self.assertEqual(value is None, is_sum(table, lot))
                self.assertEqual(bool(right), value is not None)
                if value is not None:
                    self.assertIs(is_test(table, lot, value), True)
        self.check_never(is_test, (ROUNDS, (0, 1)))
        self.check_takes(is_test, (ROUNDS, (0, 1)), (0, 3, 4))
        self.assertIs(is_test(ROUNDS, (0, 1), None), False)
        self.assertIs(is_test(ROUNDS, (0, 1, 3), None), False)
        self.assertIs(is_test(NONE24, MANY, (23,)), True)
        self.assertIs(tested(ALL24, MANY), None)

    def test_wrong(self):
        wrongs = [(InvalidTable, NOT_TABLES), (InvalidLot, not_lots(7))]
        self.check_wrong(is_test, (FANO, (0,), None), wrongs)


class Within(Case):
    """[2.3], [2.4]"""

    def test_two_tables(self):
        pairs = [pair for many in (1, 2, 3) for pair in itertools.product(every_table(many), repeat=2)]
        chosen = [table for table in picked_tables(3, 60, 5, 5)]
        pairs += list(itertools.product(chosen[:12], chosen))
        for one, other in pairs:
            few, more = table_sums(one), table_sums(other)
            self.assertIs(is_within(one, other), few <= more)
            self.assertEqual(is_within(one, other), is_within(opposite(other), opposite(one)))
            if is_within(one, other):
                self.assertEqual(one == other, one.size == other.size)
            both, either = common(one, other), joint(one, other)
            self.assertEqual(table_sums(both), few & more)
            self.assertEqual(table_sums(either), {add(lot, second) for lot in few for second in more})
            self.assertEqual(both.size + either.size, one.size + other.size)
            self.assertEqual(opposite(either), common(opposite(one), opposite(other)))
            self.assertEqual((both.lots, either.lots), (both.form, either.form))

    def test_great(self):
        for table in GREAT:
            self.assertIs(is_within(table, ALL24), True)
            self.assertIs(is_within(NONE24, table), True)
            self.assertEqual(common(table, ALL24), table)
            self.assertEqual(joint(table, NONE24), table)
            self.assertEqual(joint(table, opposite(table)).size + common(table, opposite(table)).size, 24)

    def test_wrong(self):
        wrongs = [(InvalidTable, NOT_TABLES), (InvalidTable, NOT_TABLES)]
        for function in (is_within, common, joint):
            self.check_wrong(function, (FANO, FANO), wrongs)
            for one, other in ((FANO, ROUNDS), (ROUNDS, FANO), (NONE24, Table(23, ()))):
                self.check_error(InvalidOperation, {}, function, one, other)
            self.check_wrong(function, (FANO, ROUNDS), wrongs)


class Relined(Case):
    """[2.5]"""

    def test_relined(self):
        for table in small_tables(3) + picked_tables(4, 6, 4, 5):
            for order in itertools.permutations(range(table.many)):
                other = relined(table, order)
                self.assertEqual(table_sums(other), {tuple(sorted(order.index(line) for line in lot))
                                                     for lot in table_sums(table)})
                self.assertEqual(other.lots, other.form)
                self.assertEqual(relined(opposite(table), order), opposite(other))
                back = order_back(table, order)
                self.assertEqual(relined(other, back), table)
                self.assertEqual([back[line] for line in order], list(range(table.many)))

    def test_great(self):
        self.assertEqual(relined(TWELVE, MANY[::-1]), Table(24, SINGLES[12:]))
        self.assertEqual(order_back(TWELVE, MANY[1:] + (0,)), (23,) + MANY[:23])
        self.assertEqual(order_back(Table(1, ()), (0,)), (0,))

    def test_wrong(self):
        orders = [(0, 1, 2, 3, 4, 5), (0, 1, 2, 3, 4, 5, 5), None, [0, 1, 2, 3, 4, 5, 6], (1, 2, 3, 4, 5, 6, 7), True,
                  0, "0123456", (), {}, (0, True, 2, 3, 4, 5, 6), (False, 1, 2, 3, 4, 5, 6), tuple(range(8)),
                  (0, 1, 2, 3, 4, 5, "6"), (0, 1, 2, 3, 4, 5, None), (-1, 0, 1, 2, 3, 4, 5), ((0,),), FANO,
                  (0, 1, 2, 3, 4, 5, 10 ** 60)]
        for function in (relined, order_back):
            self.check_wrong(function, (FANO, (6, 5, 4, 3, 2, 1, 0)),
                             [(InvalidTable, NOT_TABLES), (InvalidOperation, orders)])


class NotTrue(Case):
    """[2.6]"""

    def test_sums_that_all_are_in_the_opposite(self):
        table = Table(2, ((0, 1),))
        self.assertIs(is_within(table, opposite(table)), True)

    def test_one_size_none_within(self):
        one, other = Table(2, ((0,),)), Table(2, ((1,),))
        self.assertEqual(one.size, other.size)
        self.assertEqual((is_within(one, other), is_within(other, one)), (False, False))

    def test_sum_of_no_sums(self):
        table = Table(2, ((0, 1),))
        self.assertEqual([is_sum(table, lot) for lot in ((0,), (1,), add((0,), (1,)))], [False, False, True])


class Kept(Case):
    """[0.2]"""

    def test_equal_calls(self):
        for table in TABLES:
            self.assertEqual(sums(table), sums(Table(table.many, table.lots)))
            self.assertEqual(opposite(table), opposite(Table(table.many, table.form)))
