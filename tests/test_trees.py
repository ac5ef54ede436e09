"""Stage 7: trees."""

import itertools

from ringtables.errors import InvalidLot, InvalidNumber, InvalidOperation, InvalidRow, InvalidTable
from ringtables.table.rings import is_cut, is_ring
from ringtables.table.tables import Table, opposite
from ringtables.table.trees import are_exchanges, exchange, exchanges, is_exchange, is_least_tree, is_tree, least_tree
from ringtables.table.trees import own_cut, own_ring, rank, tree_of
from tests.support import BOTH, FANO, NOT_TABLES, ROUNDS, Case, add, not_lots, not_numbers, picked_tables, rings_of
from tests.support import small_tables, subsets, table_sums

MANY = tuple(range(24))
SINGLES = tuple((k,) for k in range(24))
NONE24 = Table(24, ())
ALL24 = Table(24, SINGLES)
EVEN24 = Table(24, tuple((k, k + 1) for k in range(23)))
ONE24 = Table(24, (MANY,))
NONE1, ALL1 = Table(1, ()), Table(1, ((0,),))
TABLES = small_tables(4) + picked_tables(17, 20, 5, 6) + [FANO, ROUNDS, BOTH]
FEW = small_tables(3) + picked_tables(18, 10, 4, 5) + [BOTH]
BIG = 10 ** 60 - 1


def has_ring(ways, lot):
    return any(set(ring) <= set(lot) for ring in ways)


def trees_by(table):
    """The trees as [0.9] tells: no ring within, and each further line makes one."""
    ways = rings_of(table_sums(table))
    found = []
    for lot in subsets(range(table.many)):
        others = [line for line in range(table.many) if line not in lot]
        if not has_ring(ways, lot) and all(has_ring(ways, lot + (line,)) for line in others):
            found.append(lot)
    return found


def swapped(tree, line, fresh):
    return tuple(sorted((set(tree) - {line}) | {fresh}))


def alone(one, other):
    return [line for line in one if line not in other]


class Ranks(Case):
    """[7.1]"""

    def test_rank(self):
        for table in TABLES:
            ways = rings_of(table_sums(table))
            for lot in subsets(range(table.many)):
                most = max(len(some) for some in subsets(lot) if not has_ring(ways, some))
                self.assertEqual(rank(table, lot), most)
        self.assertEqual([rank(ALL24, MANY), rank(NONE24, MANY), rank(EVEN24, MANY), rank(ONE24, MANY)], [0, 24, 1, 23])
        self.assertEqual([rank(EVEN24, ()), rank(EVEN24, (3,)), rank(ONE24, MANY[1:])], [0, 1, 23])

    def test_trees(self):
        for table in TABLES:
            trees = trees_by(table)
            for lot in subsets(range(table.many)):
                self.assertIs(is_tree(table, lot), lot in trees)
                others = tuple(line for line in range(table.many) if line not in lot)
                self.assertEqual(is_tree(table, lot), is_tree(opposite(table), others))
            self.assertTrue(all(len(lot) == table.many - table.size for lot in trees))
            self.assertIn(tree_of(table), trees)

    def test_strange(self):
        for table in (ROUNDS, FANO, ALL24, NONE1, ALL1):
            self.check_never(is_tree, (table,))
            for value in not_lots(table.many):
                self.assertIs(is_tree(table, value), False)
        self.check_takes(is_tree, (ROUNDS,), (0, 1, 2))
        self.check_takes(is_tree, (ALL24,), ())
        self.check_takes(is_tree, (NONE24,), MANY)
        self.check_takes(is_tree, (EVEN24,), (23,))
        self.assertEqual((tree_of(ALL24), tree_of(NONE24), tree_of(NONE1), tree_of(ALL1)), ((), MANY, (0,), ()))

    def test_wrong(self):
        self.check_wrong(rank, (ROUNDS, (0,)), [(InvalidTable, NOT_TABLES), (InvalidLot, not_lots(6))])
        self.check_wrong(is_tree, (ROUNDS, None), [(InvalidTable, NOT_TABLES)])
        self.check_wrong(tree_of, (ROUNDS,), [(InvalidTable, NOT_TABLES)])


class Own(Case):
    """[7.2]"""

    def test_own_rings_and_cuts(self):
        for table in TABLES:
            ways, stops = rings_of(table_sums(table)), rings_of(table_sums(opposite(table)))
            for tree in trees_by(table)[:12]:
                off = [line for line in range(table.many) if line not in tree]
                own = {line: own_ring(table, tree, line) for line in off}
                for line in off:
                    self.assertEqual([ring for ring in ways if set(ring) <= {line, *tree}], [own[line]])
                    self.check_error(InvalidOperation, {}, own_cut, table, tree, line)
                for line in tree:
                    cut = own_cut(table, tree, line)
                    self.assertEqual([lot for lot in stops if set(lot) & set(tree) == {line}], [cut])
                    self.assertEqual([other for other in off if line in own[other]], alone(cut, (line,)))
                    for other in alone(cut, (line,)):
                        self.assertIs(is_tree(table, swapped(tree, line, other)), True)
                    self.check_error(InvalidOperation, {}, own_ring, table, tree, line)
                for lot in table_sums(table):
                    self.assertEqual(add(*[own[line] for line in lot if line in off]), lot)

    def test_form(self):
        for table in TABLES:
            heads = [lot[0] for lot in table.form]
            tree = tuple(line for line in range(table.many) if line not in heads)
            self.assertEqual(tuple(own_ring(table, tree, head) for head in heads), table.form)

    def test_great(self):
        self.assertEqual(own_ring(ONE24, MANY[:23], 23), MANY)
        self.assertEqual(own_cut(ONE24, MANY[:23], 0), (0, 23))
        self.assertEqual(own_ring(ALL24, (), 23), (23,))
        self.assertEqual(own_cut(NONE24, MANY, 23), (23,))
        self.assertEqual(own_cut(EVEN24, (7,), 7), MANY)

    def test_wrong(self):
        trees = (InvalidLot, not_lots(6))
        for function, line, other in ((own_ring, 5, 0), (own_cut, 0, 5)):
            wrongs = [(InvalidTable, NOT_TABLES), trees, (InvalidNumber, not_numbers(0, 5))]
            self.check_wrong(function, (ROUNDS, (0, 1, 2), line), wrongs)
            self.check_wrong(function, (ROUNDS, (0, 1, 2), other), wrongs)
            wrongs[1] = (InvalidOperation, [(0, 1, 3), (0, 1), (), (0, 1, 2, 3)])
            self.check_wrong(function, (ROUNDS, (0, 1, 2), line), wrongs)
            # A lot that is no tree comes before the line, a line that does not fit behind it.
            self.check_wrong(function, (ROUNDS, (0, 1, 2), other), wrongs)
            self.check_error(InvalidOperation, {}, function, ROUNDS, (0, 1, 2), other)


class Exchanges(Case):
    """[7.3]"""

    def test_exchange(self):
        for table in TABLES[::2] + FEW:
            trees = trees_by(table)[:9]
            for one, other in itertools.product(trees, repeat=2):
                for line in alone(one, other):
                    right = [fresh for fresh in alone(other, one) if is_tree(table, swapped(one, line, fresh))
                             and is_tree(table, swapped(other, fresh, line))]
                    self.assertIn(exchange(table, one, other, line), right)
                    self.check_judged(is_exchange, (table, one, other, line), range(-1, table.many + 2),
                                      lambda value: value in right)

    def test_exchange_strange(self):
        goods = (ROUNDS, (0, 1, 2), (0, 3, 4), 1)
        self.check_never(is_exchange, goods)
        self.check_takes(is_exchange, goods, 3)
        self.check_takes(is_exchange, (EVEN24, (0,), (1,), 0), 1)
        self.check_takes(is_exchange, (EVEN24, (1,), (0,), 1), 0)
        for value in (0, 1, 2, 4, 5, 6, -3):
            self.assertIs(is_exchange(*goods, value), False)
        self.assertEqual(exchange(EVEN24, (0,), (23,), 0), 23)

    def test_exchanges(self):
        for table in FEW + [ROUNDS, FANO]:
            trees = trees_by(table)[:10]
            for one, other in itertools.product(trees, repeat=2):
                value = exchanges(table, one, other)
                self.assertIs(are_exchanges(table, one, other, value), True)
                self.assertEqual(len(value), len(alone(one, other)))
                tree = one
                for line, fresh in value:
                    self.assertTrue(line in tree and fresh not in tree)
                    tree = swapped(tree, line, fresh)
                    self.assertIn(tree, trees_by(table))
                self.assertEqual(tree, other)

    def test_are_exchanges(self):
        for table in FEW[10:]:
            trees = trees_by(table)
            pairs = list(itertools.product(range(table.many), repeat=2))
            for one, other in itertools.product(trees[:4], repeat=2):
                values = [row for many in range(3 if table.many < 5 else 2) for row in itertools.product(pairs, repeat=many)]
                self.check_judged(are_exchanges, (table, one, other), values,
                                  lambda value: self.lead(trees, one, other, value))

    def lead(self, trees, one, other, value):
        tree = one
        for line, fresh in value:
            if line not in tree or fresh in tree or swapped(tree, line, fresh) not in trees:
                return False
            tree = swapped(tree, line, fresh)
        return tree == other and len(value) == len(alone(one, other))

    def test_exchanges_strange(self):
        goods = (ROUNDS, (0, 1, 2), (0, 3, 4))
        self.check_never(are_exchanges, goods)
        for value in (((1, 3), (2, 4)), ((2, 4), (1, 3))):
            self.check_takes(are_exchanges, goods, value)
        self.check_takes(are_exchanges, (ROUNDS, (0, 1, 2), (0, 1, 2)), ())
        # No way round, no pair of a line with itself, no line that is none, no lot that is no tree on the way.
        for value in (((1, 4), (2, 3)), ((1, 3),), (), ((1, 3), (2, 4), (0, 0)), ((1, 5), (2, 4), (5, 3)),
                      ((3, 1), (4, 2)), ((1, 3), (2, 24)), ((1, 3), (2, -1))):
            self.assertIs(are_exchanges(*goods, value), self.lead(trees_by(ROUNDS), (0, 1, 2), (0, 3, 4), value))
        self.assertIs(are_exchanges(ROUNDS, (0, 1, 2), (0, 1, 2), ((0, 3), (3, 0))), False)
        self.assertIs(are_exchanges(ROUNDS, (0, 1, 2), (0, 1, 2), ((0, 0),)), False)

    def test_great(self):
        self.assertEqual(exchanges(ALL24, (), ()), ())
        self.assertEqual(exchanges(ONE24, MANY[1:], MANY[:23]), ((23, 0),))
        table = Table(24, tuple((k, k + 12) for k in range(12)))
        value = exchanges(table, MANY[:12], MANY[12:])
        self.assertEqual(sorted(value), [(k, k + 12) for k in range(12)])
        self.assertIs(are_exchanges(table, MANY[:12], MANY[12:], value[::-1]), True)

    def test_wrong(self):
        lots, trees = (InvalidLot, not_lots(6)), (InvalidOperation, [(0, 1, 3), (0, 1), (), (0, 1, 2, 3)])
        tables, lines = (InvalidTable, NOT_TABLES), (InvalidNumber, not_numbers(0, 5))
        for function, more in ((exchange, ()), (is_exchange, (None,))):
            for one, other in itertools.product((lots, trees), repeat=2):
                for line in (1, 0, 3, 5):
                    goods = (ROUNDS, (0, 1, 2), (0, 3, 4), line) + more
                    self.check_wrong(function, goods, [tables, one, other, lines])
            for line in (0, 3, 4, 5):
                self.check_error(InvalidOperation, {}, function, ROUNDS, (0, 1, 2), (0, 3, 4), line, *more)
        for function, more in ((exchanges, ()), (are_exchanges, (None,))):
            for one, other in itertools.product((lots, trees), repeat=2):
                self.check_wrong(function, (ROUNDS, (0, 1, 2), (0, 3, 4)) + more, [tables, one, other])


class LeastTrees(Case):
    """[7.4]"""

    ROWS = ((3, 1, 2, 5, 4, 6, 0), (1, 1, 1, 1, 1, 1, 1), (-1, -5, 0, 2, -1, 2, 7), (BIG, -BIG, BIG, BIG - 1, 0, 1, 2),
            (2, 1, 2, 1, 2, 1, 2), (0, 0, 0, -1, -1, -1, -1))

    def test_least_trees(self):
        for table in TABLES:
            trees = trees_by(table)
            for row in self.ROWS:
                weights = row[:table.many]
                least = min(sum(weights[line] for line in tree) for tree in trees)
                right = [tree for tree in trees if sum(weights[line] for line in tree) == least]
                self.assertIn(least_tree(table, weights), right)
                self.check_judged(is_least_tree, (table, weights), subsets(range(table.many)),
                                  lambda value: value in right)

    def test_told_by_own_rings_and_cuts(self):
        for table in FEW + [ROUNDS]:
            for tree in trees_by(table):
                off = [line for line in range(table.many) if line not in tree]
                for row in self.ROWS:
                    least = is_least_tree(table, row[:table.many], tree)
                    self.assertEqual(least, all(row[line] >= max(row[k] for k in own_ring(table, tree, line))
                                                for line in off))
                    self.assertEqual(least, all(row[line] <= min(row[k] for k in own_cut(table, tree, line))
                                                for line in tree))

    def test_strange(self):
        goods = (ROUNDS, (1, 1, 1, 2, 2, 2))
        self.check_never(is_least_tree, goods)
        self.check_takes(is_least_tree, goods, (0, 1, 2))
        for value in ((0, 1, 3), (0, 1, 4), (0, 1), (), (0, 1, 2, 3)):
            self.assertIs(is_least_tree(*goods, value), False)

    def test_great(self):
        self.assertEqual(least_tree(EVEN24, (5,) * 7 + (4,) + (5,) * 16), (7,))
        self.assertEqual(least_tree(ONE24, (0,) * 9 + (BIG,) + (-BIG,) * 14), MANY[:9] + MANY[10:])
        self.assertEqual(least_tree(ALL24, (-1,) * 24), ())
        self.assertEqual(least_tree(NONE24, (BIG,) * 24), MANY)
        self.assertIs(is_least_tree(EVEN24, (0,) * 24, (17,)), True)
        self.assertIs(is_least_tree(EVEN24, (0,) * 23 + (1,), (23,)), False)

    def test_wrong(self):
        rows = [(1, 2, 3, 4, 5), (1, 2, 3, 4, 5, True), None, [1, 2, 3, 4, 5, 6], True, 0, "123456", (), {},
                (1, 2, 3, 4, 5, 6, 7), (False, 0, 0, 0, 0, 0), (1, 2, 3, 4, 5, 10 ** 60), (-(10 ** 60), 1, 2, 3, 4, 5),
                (1, 2, 3, 4, 5, None), (1, 2, 3, 4, 5, "6"), ((1,), 2, 3, 4, 5, 6), FANO, (1, 2, 3, 4, 5, 10 ** 99)]
        for function, more in ((least_tree, ()), (is_least_tree, (None,))):
            self.check_wrong(function, (ROUNDS, (1, 2, 3, 4, 5, 6)) + more,
                             [(InvalidTable, NOT_TABLES), (InvalidRow, rows)])
        self.assertEqual(least_tree(NONE1, (BIG,)), (0,))


class NotTrue(Case):
    """[7.5]"""

    def test_line_on_each_tree(self):
        table = Table(2, ((0,),))
        self.assertIs(is_ring(table, (1,)), False)
        self.assertIs(is_cut(table, (1,)), True)
        self.assertTrue(all(1 in tree for tree in trees_by(table)))

    def test_several_least_trees(self):
        self.assertEqual([is_least_tree(ROUNDS, (1,) * 6, tree) for tree in ((0, 1, 2), (3, 4, 0))], [True, False])
        self.assertEqual([is_least_tree(ROUNDS, (1,) * 6, tree) for tree in ((0, 1, 2), (0, 3, 4))], [True, True])

    def test_lines_that_cannot_be_exchanged(self):
        self.assertEqual([is_exchange(ROUNDS, (0, 1, 2), (0, 3, 4), 1, fresh) for fresh in (3, 4)], [True, False])
