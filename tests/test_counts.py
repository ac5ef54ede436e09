"""Stage 16: trees counted by signs."""

import itertools
import random
import time

from ringtables.errors import InvalidLot, InvalidNet, InvalidOperation, InvalidSigns, InvalidTable, Refused, TooMany
from ringtables.main.bars import told_table
from ringtables.main.found import net_of
from ringtables.net.nets import Net, is_net_of, net_beside, pieces_of, star, table_of
from ringtables.sign.counts import is_net_or_uneven, lot_determinant, net_or_uneven, net_tree_count, square
from ringtables.sign.counts import square_count, tree_count, trees_with
from ringtables.sign.signs import are_right_signs, sign_count, signs_or_bar, turned_signs
from ringtables.table.lesser import lengthened, lesser, widened
from ringtables.table.parts import beside
from ringtables.table.rings import is_cut, is_ring
from ringtables.table.tables import Table, opposite, relined
from tests.support import ALL1, BOTH, FANO, NONE1, NONE24, NOT_NETS, NOT_TABLES, ROUNDS, SPLIT, STARS, STRANGE, WHEEL
from tests.support import Case, bridges_by, clashes_by, cuts_by, hanging_net, is_row_by, not_lots, picked_nets
from tests.support import picked_tables, rows_by, small_tables, subsets, table_sums, unlike_net, whole_net
from tests.test_signs import ONES, RIGHT, SEVENTEEN, SIXTEEN, TEN, determinants, some_signs

CHANCE = random.Random(71)
FOURS, SIX = opposite(FANO), told_table("six")
MANY = {"limit": 16}
NETS = [hanging_net(CHANCE, 5, 8) for _ in range(10)] + picked_nets(72, 15, 5, 8) + [WHEEL]
TABLES = (small_tables(3) + picked_tables(73, 25, 4, 7) + [table_of(net) for net in NETS]
          + [FANO, FOURS, BOTH, SPLIT, ROUNDS, widened(FANO, (0, 1)), lengthened(FOURS, (0,))])
EVERY16 = Table(16, tuple((k,) for k in range(16)))


def trees_by(table):
    """All lots without a ring within such that each further line makes one."""
    sums = [set(lot) for lot in table_sums(table) if lot]
    free = [lot for lot in subsets(range(table.many)) if not any(one <= set(lot) for one in sums)]
    told = set(free)
    return [lot for lot in free
            if not any(tuple(sorted(lot + (line,))) in told for line in range(table.many) if line not in lot)]


def net_trees_by(net):
    """All lots of lines that join the same knots as all lines, as few as can be."""
    def joined(lot):
        group = list(range(net.knots))
        for line in lot:
            low, high = (group[knot] for knot in net.lines[line])
            group = [low if knot == high else knot for knot in group]
        return len(set(group))
    least = joined(range(len(net.lines)))
    return [lot for lot in itertools.combinations(range(len(net.lines)), net.knots - least) if joined(lot) == least]


def grown(table, many):
    """The table with further lines beside others, or behind others: as far from a net's as it was."""
    while table.many < many:
        line = CHANCE.randrange(table.many)
        if CHANCE.random() < 0.6:
            table = lengthened(table, tuple(k for k, lot in enumerate(table.form) if line in lot))
        else:
            table = widened(table, (line,))
    return relined(table, tuple(CHANCE.sample(range(many), many)))


class OneByOne(Case):
    """[16.1]"""

    def test_count(self):
        for table in TABLES:
            trees = trees_by(table)
            self.assertEqual(tree_count(table), len(trees))
            self.assertEqual(trees_with(table), tuple(sum(line in lot for lot in trees) for line in range(table.many)))

    def test_out_and_join(self):
        for table in TABLES + [STARS, SIX, TEN]:
            for line in range(table.many) if table.many > 1 else ():
                without = 0 if is_cut(table, (line,)) else tree_count(lesser(table, ("out", line)))
                having = 0 if is_ring(table, (line,)) else tree_count(lesser(table, ("join", line)))
                self.assertEqual(tree_count(table), without + having)
                self.assertEqual(trees_with(table)[line], having)

    def test_opposite(self):
        for table in TABLES + [STARS, SIX, TEN]:
            many = tree_count(table)
            self.assertEqual(tree_count(opposite(table)), many)
            self.assertEqual(trees_with(opposite(table)), tuple(many - having for having in trees_with(table)))

    def test_edges(self):
        self.assertEqual([tree_count(NONE1), trees_with(NONE1)], [1, (1,)])
        self.assertEqual([tree_count(ALL1), trees_with(ALL1)], [1, (0,)])
        self.assertEqual([tree_count(Table(16, ())), trees_with(Table(16, ()))], [1, (1,) * 16])
        self.assertEqual([tree_count(EVERY16), trees_with(EVERY16)], [1, (0,) * 16])
        self.assertEqual([tree_count(Table(16, (tuple(range(16)),))), tree_count(beside(FANO, ROUNDS))], [16, 28 * 16])

    def test_great(self):
        for size in range(17):
            rows = [tuple(sorted([k] + [line for line in range(size, 16) if CHANCE.random() < 0.5]))
                    for k in range(size)]
            table = Table(16, tuple(rows))
            before = time.perf_counter()
            told = trees_with(table)
            self.assertLess(time.perf_counter() - before, 2)
            self.assertEqual(sum(told), (16 - size) * tree_count(table))


class Determinants(Case):
    """[16.2], [16.3]"""

    def test_square(self):
        for table in TABLES:
            signs = some_signs(table)
            told = square(table, signs)
            self.assertEqual(told, tuple(tuple(sum(a * b for a, b in zip(row, other)) for other in signs)
                                         for row in signs))

    def test_count(self):
        bent = 0
        for table in TABLES + [STARS, SIX]:
            trees = tree_count(table)
            for signs in [some_signs(table) for _ in range(4)]:
                told = determinants(table, signs)
                whole = square_count(table, signs)
                self.assertEqual(whole, sum(number ** 2 for number in told.values()))
                self.assertEqual(sum(number % 2 for number in told.values()), trees)
                self.assertEqual((whole - trees) % 4, 0)
                self.assertEqual(whole == trees, are_right_signs(table, signs))
                self.assertGreaterEqual(whole, trees)
                bent += whole > trees
                for lot, number in told.items():
                    self.assertEqual(lot_determinant(table, signs, lot), number)
        self.assertGreater(bent, 20)

    def test_size_none(self):
        for many in (1, 3, 16):
            table = Table(many, ())
            self.assertEqual([square(table, ()), square_count(table, ()), lot_determinant(table, (), ())], [(), 1, 1])

    def test_great(self):
        for size in (1, 5, 8, 12, 16):
            table = Table(16, tuple((k,) + tuple(range(max(size, k + 1), 16)) for k in range(size)))
            signs = some_signs(table)
            self.assertEqual((square_count(table, signs) - tree_count(table)) % 4, 0)
        self.assertEqual(square_count(SIXTEEN, signs_or_bar(SIXTEEN)[1]), tree_count(SIXTEEN))
        signs = tuple(tuple(1 if k == line else 0 for line in range(16)) for k in range(16))
        self.assertEqual([square(EVERY16, signs), square_count(EVERY16, signs)], [signs, 1])


class Shares(Case):
    """[16.4]"""

    def test_shares(self):
        for table in TABLES + [SIX, STARS, TEN, opposite(TEN)]:
            told = signs_or_bar(table)
            if told[0] != "signs" or table.many == 1:
                continue
            trees = square_count(table, told[1])
            self.assertEqual(sum(trees_with(table)), (table.many - table.size) * trees)
            for line in range(table.many):
                if not is_cut(table, (line,)):
                    less = lesser(table, ("out", line))
                    self.assertEqual(trees - trees_with(table)[line], square_count(less, signs_or_bar(less)[1]))


class Nets(Case):
    """[16.5]"""

    def test_nets(self):
        for net in NETS + [unlike_net(CHANCE, net) for net in NETS]:
            told = net_trees_by(net)
            self.assertEqual(net_tree_count(net), len(told))
            self.assertEqual(sorted(told), sorted(trees_by(table_of(net))))

    def test_known(self):
        for knots in range(2, 8):
            self.assertEqual(net_tree_count(whole_net(knots)), knots ** (knots - 2))
        for one, other in ((2, 3), (3, 3), (4, 6), (2, 12), (1, 24)):
            lines = tuple((a, one + b) for a in range(one) for b in range(other))
            self.assertEqual(net_tree_count(Net(one + other, lines)), one ** (other - 1) * other ** (one - 1))
        self.assertEqual(net_tree_count(Net(24, tuple((k, k + 1) for k in range(23)) + ((0, 23),))), 24)
        self.assertEqual(net_tree_count(Net(2, ((0, 1),) * 24)), 24)

    def test_pieces_and_loops(self):
        self.assertEqual(net_tree_count(Net(1, ((0, 0),))), 1)
        self.assertEqual(net_tree_count(Net(25, ((3, 3), (4, 4)))), 1)
        self.assertEqual(net_tree_count(Net(25, ((3, 24),))), 1)
        for one, other in itertools.product(NETS[:8], NETS[8:16]):
            both = net_beside(one, other)
            self.assertEqual(net_tree_count(both), net_tree_count(one) * net_tree_count(other))

    def test_determinant(self):
        # For a net in one piece, whichever knot is left out.
        for net in [net for net in NETS if len(pieces_of(net)) == 1 and net.knots > 1]:
            for gone in range(net.knots):
                knots = [knot for knot in range(net.knots) if knot != gone]
                rows = [[len(star(net, a)) if a == b else -sum(set(pair) == {a, b} for pair in net.lines)
                         for b in knots] for a in knots]
                total = sum((-1) ** sum(p[i] > p[j] for i in range(len(p)) for j in range(i + 1, len(p)))
                            * product_of(rows[k][p[k]] for k in range(len(p)))
                            for p in itertools.permutations(range(len(rows))))
                self.assertEqual(net_tree_count(net), total)

    def test_wrong(self):
        self.check_wrong(net_tree_count, (WHEEL,), [(InvalidNet, NOT_NETS)])


def product_of(numbers):
    whole = 1
    for number in numbers:
        whole *= number
    return whole


class EvenCuts(Case):
    """[16.6], [0.19]"""

    def uneven_by(self, table):
        """All cuts with all their odd rows."""
        found = set()
        for cut in cuts_by(table):
            many, pairs = len(bridges_by(table, cut)), clashes_by(table, cut)
            found |= {(cut, row) for row in rows_by(many, pairs)} if many < 6 else set()
        return found

    def test_either_or(self):
        words = []
        for table in [table for table in TABLES if sign_count(table)] + [SIX, STARS, TEN, opposite(TEN), opposite(SIX)]:
            value = net_or_uneven(table)
            words.append(value[0])
            self.assertIs(is_net_or_uneven(table, value), True)
            if value[0] == "net":
                self.assertIs(is_net_of(table, value[1]), True)
            else:
                word, cut, row = value
                self.assertIn(cut, cuts_by(table))
                self.assertTrue(is_row_by(len(bridges_by(table, cut)), clashes_by(table, cut), row))
            self.assertEqual(value[0] == "net", net_of(table) is not None)
            self.assertEqual(value[0] == "net", not self.uneven_by(table))
        self.assertEqual(words.count("uneven"), 4)

    def test_without_right_signs(self):
        self.assertEqual([len(bridges_by(FANO, cut)) for cut in cuts_by(FANO)], [1] * 7)
        self.assertIsNone(net_of(FANO))
        for table in (FANO, FOURS, beside(FANO, ALL1), beside(FOURS, Table(9, ()))):
            for args in ((net_or_uneven, table), (is_net_or_uneven, table, None)):
                self.check_error(Refused, {"reason": ("signs",)}, *args)

    def test_judged(self):
        for table in (STARS, SIX, TEN):
            told = self.uneven_by(table)
            values = [("uneven", cut, row) for cut in cuts_by(table)
                      for row in itertools.chain(*(itertools.permutations(range(4), k) for k in range(5)))]
            taken = self.check_judged(is_net_or_uneven, (table,), values, lambda value: value[1:] in told)
            self.assertGreater(taken, 0)
            self.check_never(is_net_or_uneven, (table,))
        self.check_takes(is_net_or_uneven, (STARS,), ("uneven", (0, 2, 4, 7), (2, 0, 1)))
        self.check_takes(is_net_or_uneven, (ROUNDS,), ("net", WHEEL))
        for net in NETS:
            self.assertIs(is_net_or_uneven(table_of(net), ("net", unlike_net(CHANCE, net))), True)
        self.check_never(is_net_or_uneven, (ROUNDS,))
        for value in STRANGE:
            for told in (("uneven", (0, 2, 4, 7), value), ("uneven", value, (2, 0, 1)), ("net", value),
                         ("uneven", value)):
                self.assertIs(is_net_or_uneven(STARS, told), False)
        self.assertIs(is_net_or_uneven(ROUNDS, ("uneven", (1, 2, 3, 4), (0, 1))), False)

    def test_great(self):
        for told in (STARS, SIX, TEN, table_of(whole_net(5)), opposite(SIX), ROUNDS):
            for many in (15, 16):
                for _ in range(4):
                    table = grown(told, many)
                    before = time.perf_counter()
                    value = net_or_uneven(table)
                    self.assertLess(time.perf_counter() - before, 2)
                    self.assertIs(is_net_or_uneven(table, value), True)
                    self.assertEqual(value[0] == "net", net_of(told) is not None)
        self.assertEqual(net_or_uneven(Table(16, ()))[0], "net")
        self.assertEqual(net_or_uneven(EVERY16)[0], "net")


class Wrong(Case):
    def test_wrong(self):
        tables = (InvalidTable, NOT_TABLES)
        rows = [list(ONES[0]), (True, 0, 1, 0, 1, 0), (-1, 0, 1, 0, 1, 0), (1, 0, 2, 0, 1, 0), (1, 0, 1, 0, 0, 0),
                (1, 0, 1, 0, 1), (1, 0, 1, 0, 1, 0, 0), (1, 0, 10 ** 60, 0, 1, 0), None, 1, ()]
        signs = (InvalidSigns, [None, (), ONES[:2], ONES + ONES[:1], list(ONES), True, "signs", {}, FANO, ONES[::-1]]
                 + [(row,) + ONES[1:] for row in rows])
        for function in (tree_count, trees_with, net_or_uneven):
            self.check_wrong(function, (ROUNDS,), [tables])
        for function in (square, square_count):
            self.check_wrong(function, (ROUNDS, ONES), [tables, signs])
        self.check_wrong(lot_determinant, (ROUNDS, ONES, (2, 4, 5)), [tables, signs, (InvalidLot, not_lots(6))])
        # A lot of another number of lines comes behind all others.
        self.check_wrong(lot_determinant, (ROUNDS, ONES, (2,)), [tables, signs, (InvalidLot, not_lots(6))])
        for lot in ((), (0,), (0, 1), (0, 1, 2, 3), (0, 1, 2, 3, 4, 5)):
            self.check_error(InvalidOperation, {}, lot_determinant, ROUNDS, ONES, lot)
        for right in (("net", WHEEL), ("uneven", (0, 2, 4, 7), (2, 0, 1))):
            self.check_judge_wrong(is_net_or_uneven, (STARS,), right, [tables])

    def test_seventeen(self):
        signs = ((1, 1) + (0,) * 14 + (1,), (0, 0, 1) + (0,) * 13 + (-1,))
        for function, more in [(tree_count, ()), (trees_with, ()), (square, (signs,)), (square_count, (signs,)),
                               (lot_determinant, (signs, (0, 1))), (lot_determinant, (signs, (0,))),
                               (net_or_uneven, ()), (is_net_or_uneven, (None,))]:
            self.check_error(TooMany, MANY, function, SEVENTEEN, *more)
            if more and more[0]:
                self.check_error(InvalidSigns, {}, function, SEVENTEEN, signs[::-1], *more[1:])
        self.check_error(InvalidLot, {}, lot_determinant, SEVENTEEN, signs, (17,))
        for table in (NONE24, beside(FANO, Table(10, ())), beside(FANO, Table(17, ()))):
            for function, more in [(tree_count, ()), (net_or_uneven, ()), (is_net_or_uneven, (None,))]:
                self.check_error(TooMany, MANY, function, table, *more)


class NotTrue(Case):
    """[16.7]"""

    def test_great_numbers_off_the_middle(self):
        wide = Table(6, ((0, 2, 3, 4), (1, 2, 3, 5)))
        signs = signs_or_bar(wide)[1]
        self.assertIs(are_right_signs(wide, signs), True)
        self.assertEqual(abs(square(wide, signs)[0][1]), 2)

    def test_equally_many_trees(self):
        one, other = Net(2, ((0, 1),)), Net(3, ((0, 1), (1, 2)))
        self.assertEqual([net_tree_count(one), net_tree_count(other)], [1, 1])
        self.assertNotEqual(len(one.lines), len(other.lines))

    def test_other_signs_are_right(self):
        self.assertNotEqual(square_count(ROUNDS, ONES), tree_count(ROUNDS))
        self.assertEqual(square_count(ROUNDS, RIGHT), tree_count(ROUNDS))
        self.assertEqual(square_count(ROUNDS, turned_signs(ROUNDS, RIGHT, (0, 4))), 16)
