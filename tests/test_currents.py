"""Stage 17: flows, tensions, currents."""

import itertools
import random
import time
from fractions import Fraction
from math import gcd, prod

import ringtables.sign.currents as module
from ringtables.errors import InvalidNumber, InvalidOperation, InvalidRow, InvalidSigns, InvalidTable, TooMany
from ringtables.main.bars import told_table
from ringtables.net.nets import Net, table_of
from ringtables.sign.counts import tree_count, trees_with
from ringtables.sign.currents import are_currents, bottom, currents, flow_or_cut, is_flow, is_flow_or_cut, is_tension
from ringtables.sign.currents import is_tension_or_ring, share, tension_or_ring
from ringtables.sign.signs import are_right_signs, net_signs, opposite_signs, signs_or_bar, turned_signs
from ringtables.table.parts import beside
from ringtables.table.tables import Table, opposite
from tests.support import ALL1, BOTH, FANO, NONE1, NOT_TABLES, ROUNDS, SPLIT, STARS, STRANGE, WHEEL, Case, cuts_by
from tests.support import not_numbers, picked_nets, picked_tables, rings_of, small_tables, table_sums
from tests.support import unlike_net, whole_net
from tests.test_counts import trees_by
from tests.test_signs import ONES, RIGHT, SEVENTEEN, SIXTEEN, TEN, some_signs

CHANCE = random.Random(81)
MOST = 10 ** 6
LONG = 10 ** 60 - 1
THREE, ROUND = Table(3, ((0, 1, 2),)), ((1, 1, -1),)
NETS = picked_nets(82, 15, 5, 8) + [WHEEL]


def turned(table, signs):
    return turned_signs(table, signs, tuple(line for line in range(table.many) if CHANCE.random() < 0.4))


# Tables with right signs, unlike ones for each.
TOLD = [(table, turned(table, signs_or_bar(table)[1]))
        for table in small_tables(3) + picked_tables(83, 20, 4, 6) + [table_of(net) for net in NETS]
        + [BOTH, SPLIT, STARS, told_table("six"), TEN, ROUNDS]
        if signs_or_bar(table)[0] == "signs"]


def some_row(many, most=5):
    return tuple(CHANCE.randint(-most, most) for _ in range(many))


def some_weights(many):
    return tuple(CHANCE.choice((1, 2, 3, 7, 10, 999, MOST)) for _ in range(many))


def dot(one, other):
    return sum(a * b for a, b in zip(one, other))


def made_of(signs, numbers, many):
    return tuple(sum(number * row[line] for number, row in zip(numbers, signs)) for line in range(many))


def flow_by(signs, row):
    """Whether the row is a flow, by taking rows of the signs away at their heads."""
    row = list(row)
    for told in signs:
        head = [line for line, number in enumerate(told) if number][0]
        times = row[head]
        row = [a - times * b for a, b in zip(row, told)]
    return not any(row)


def signed_cuts(table, signs):
    """All tensions of -1, 0, 1 whose lines are a cut."""
    return [row for cut in cuts_by(table) for row in signed_on(table, cut) if not any(dot(row, one) for one in signs)]


def signed_rings(table, signs):
    """All flows of -1, 0, 1 whose lines are a ring."""
    return [row for ring in rings_of(table_sums(table)) for row in signed_on(table, ring) if flow_by(signs, row)]


def signed_on(table, lot):
    return [tuple(dict(zip(lot, numbers)).get(line, 0) for line in range(table.many))
            for numbers in itertools.product((1, -1), repeat=len(lot))]


def solved(table, signs, weights, sources):
    """Flow and tension as fractions, by elimination."""
    many = len(signs)
    rows = [[Fraction(sum(w * a * b for w, a, b in zip(weights, row, other))) for other in signs]
            + [Fraction(dot(row, sources))] for row in signs]
    for k in range(many):
        at = next(j for j in range(k, many) if rows[j][k])
        rows[k], rows[at] = rows[at], rows[k]
        rows[k] = [number / rows[k][k] for number in rows[k]]
        rows = [row if j == k else [a - row[k] * b for a, b in zip(row, rows[k])] for j, row in enumerate(rows)]
    flow = made_of(signs, [row[-1] for row in rows], table.many)
    return flow, tuple(s - w * f for s, w, f in zip(sources, weights, flow))


class Flows(Case):
    """[17.1]"""

    def test_constants(self):
        self.assertEqual(module.MOST_WEIGHT, 10 ** 6)

    def test_flows(self):
        for table, signs in TOLD:
            for _ in range(4):
                flow = made_of(signs, some_row(table.size), table.many)
                self.assertIs(is_flow(table, signs, flow), True)
                row = some_row(table.many)
                self.assertIs(is_flow(table, signs, row), flow_by(signs, row))
                for line in range(table.many):
                    other = flow[:line] + (flow[line] + 1,) + flow[line + 1:]
                    self.assertIs(is_flow(table, signs, other), flow_by(signs, other))
                # At the heads it has the numbers that make it.
                self.assertEqual(made_of(signs, [flow[lot[0]] for lot in table.form], table.many), flow)

    def test_tensions(self):
        for table, signs in TOLD:
            others = opposite_signs(table, signs)
            for _ in range(4):
                tension = made_of(others, some_row(len(others)), table.many)
                self.assertIs(is_tension(table, signs, tension), True)
                for row in [some_row(table.many), tension[::-1]] + [
                        tension[:line] + (tension[line] - 2,) + tension[line + 1:] for line in range(table.many)]:
                    self.assertIs(is_tension(table, signs, row), not any(dot(row, one) for one in signs))

    def test_small_rows(self):
        for table, signs in TOLD[:60]:
            if table.many < 5:
                for row in itertools.product((-1, 0, 1, 2), repeat=table.many):
                    self.assertIs(is_flow(table, signs, row), flow_by(signs, row))
                    self.assertIs(is_tension(table, signs, row), not any(dot(row, one) for one in signs))

    def test_nets(self):
        # As much comes to each knot as leaves it; differences of heights.
        for net in NETS + [unlike_net(CHANCE, net) for net in NETS]:
            table, signs = table_of(net), net_signs(net)
            heights = some_row(net.knots, 99)
            self.assertIs(is_tension(table, signs, tuple(heights[b] - heights[a] for a, b in net.lines)), True)
            for row in [made_of(signs, some_row(table.size), table.many), some_row(table.many)]:
                left = [0] * net.knots
                for number, (a, b) in zip(row, net.lines):
                    left[a] += number
                    left[b] -= number
                self.assertIs(is_flow(table, signs, row), not any(left))

    def test_any_length(self):
        for number in (10 ** 60, -(10 ** 99), LONG):
            self.assertIs(is_flow(THREE, ROUND, (number, number, -number)), True)
            self.assertIs(is_flow(THREE, ROUND, (number, number, number)), False)
            self.assertIs(is_tension(THREE, ROUND, (number, 1, number + 1)), True)
            self.assertIs(is_tension(THREE, ROUND, (number, 1, number)), False)

    def test_judges_take_nothing_else(self):
        for judge, value in ((is_flow, (2, 2, -2)), (is_tension, (1, 2, 3))):
            for other in ((2, 2), (2, 2, -2, 0), [2, 2, -2], (True, True, -1), (True, 0, 1), (0, 0, False), None, "2",
                          (2, 2, "-2"), ((2, 2, -2),), {0: 2, 1: 2, 2: -2}):
                self.assertIs(judge(THREE, ROUND, other), False)
            self.assertIs(judge(THREE, ROUND, value), True)
            for table, signs in ((THREE, ROUND), (ROUNDS, RIGHT)):
                self.check_never(judge, (table, signs))
        self.assertIs(is_flow(NONE1, (), (0,)), True)
        self.assertIs(is_flow(NONE1, (), (False,)), False)
        self.assertIs(is_tension(NONE1, (), (7,)), True)
        self.assertIs(is_flow(ALL1, ((1,),), (7,)), True)
        self.assertIs(is_tension(ALL1, ((1,),), (7,)), False)


class EitherOr(Case):
    """[17.2]"""

    def test_either_or(self):
        words = set()
        for table, signs in TOLD:
            flow = made_of(signs, some_row(table.size), table.many)
            tension = made_of(opposite_signs(table, signs), some_row(table.many - table.size), table.many)
            for row in [flow, tension, some_row(table.many), (0,) * table.many, some_row(table.many, LONG)]:
                value = flow_or_cut(table, signs, row)
                words.add(value[0])
                self.assertIs(is_flow_or_cut(table, signs, row, value), True)
                self.assertEqual(value[0] == "flow", flow_by(signs, row))
                if value[0] == "flow":
                    self.assertEqual(made_of(signs, value[1], table.many), row)
                else:
                    self.assertIn(value[1], signed_cuts(table, signs))
                    self.assertNotEqual(dot(value[1], row), 0)
                value = tension_or_ring(table, signs, row)
                words.add(value[0])
                self.assertIs(is_tension_or_ring(table, signs, row, value), True)
                self.assertEqual(value == ("tension",), not any(dot(row, one) for one in signs))
                if value != ("tension",):
                    self.assertIn(value[1], signed_rings(table, signs))
                    self.assertNotEqual(dot(value[1], row), 0)
        self.assertEqual(words, {"flow", "cut", "tension", "ring"})

    def test_judged(self):
        for table, signs in [(ROUNDS, RIGHT), (BOTH, signs_or_bar(BOTH)[1]), (THREE, ROUND), (Table(3, ()), ()),
                             (Table(3, ((0,), (1,), (2,))), ((1, 0, 0), (0, 1, 0), (0, 0, 1)))]:
            small = list(itertools.product((-1, 0, 1), repeat=table.many))
            cuts, rings = signed_cuts(table, signs), signed_rings(table, signs)
            for row in [made_of(signs, some_row(table.size), table.many), some_row(table.many), (0,) * table.many,
                        (1,) * table.many]:
                self.check_judged(is_flow_or_cut, (table, signs, row), [("cut", told) for told in small],
                                  lambda value: value[1] in cuts and dot(value[1], row))
                self.check_judged(is_tension_or_ring, (table, signs, row), [("ring", told) for told in small],
                                  lambda value: value[1] in rings and dot(value[1], row))
                self.check_judged(is_flow_or_cut, (table, signs, row),
                                  [("flow", told) for told in itertools.product(range(-5, 6), repeat=table.size)],
                                  lambda value: made_of(signs, value[1], table.many) == row)
                self.assertIs(is_tension_or_ring(table, signs, row, ("tension",)), not any(dot(row, r) for r in signs))

    def test_judges_take_nothing_else(self):
        self.check_takes(is_flow_or_cut, (THREE, ROUND, (2, 2, -2)), ("flow", (2,)))
        self.check_takes(is_flow_or_cut, (THREE, ROUND, (1, 1, 0)), ("cut", (0, 1, 1)))
        self.check_takes(is_flow_or_cut, (Table(2, ()), (), (0, 0)), ("flow", ()))
        self.check_takes(is_tension_or_ring, (THREE, ROUND, (1, 2, 3)), ("tension",))
        self.check_takes(is_tension_or_ring, (THREE, ROUND, (1, 2, 4)), ("ring", (1, 1, -1)))
        self.check_takes(is_tension_or_ring, (THREE, ROUND, (1, 2, 4)), ("ring", (-1, -1, 1)))
        for judge in (is_flow_or_cut, is_tension_or_ring):
            for row in ((0,) * 6, (1, 2, 3, 4, 5, 6), RIGHT[0]):
                self.check_never(judge, (ROUNDS, RIGHT, row))
                for value in STRANGE:
                    for word in ("flow", "cut", "ring"):
                        self.assertIs(judge(ROUNDS, RIGHT, row, (word, value)), False)
        # The lines of both are cuts, of the sum they are none; and twice a signed cut is no signed cut.
        table, signs = Table(4, ((0, 1), (2, 3))), ((1, 1, 0, 0), (0, 0, 1, 1))
        self.assertIs(is_flow_or_cut(table, signs, (1, 0, 1, 0), ("cut", (1, -1, 0, 0))), True)
        self.assertIs(is_flow_or_cut(table, signs, (1, 0, 1, 0), ("cut", (1, -1, 1, -1))), False)
        self.assertIs(is_flow_or_cut(table, signs, (1, 0, 1, 0), ("cut", (2, -2, 0, 0))), False)
        self.assertIs(is_tension_or_ring(table, signs, (1, 0, 1, 0), ("ring", (1, 1, 1, 1))), False)
        self.assertIs(is_tension_or_ring(table, signs, (1, 0, 1, 0), ("ring", (0, 0, 1, 1))), True)


class Currents(Case):
    """[17.3], [17.4], [0.22]"""

    def test_currents(self):
        for table, signs in TOLD:
            for _ in range(2):
                weights, sources = some_weights(table.many), some_row(table.many, 50)
                whole, flow, tension = currents(table, signs, weights, sources)
                told = solved(table, signs, weights, sources)
                self.assertEqual((flow, tension), tuple(tuple(whole * number for number in row) for row in told))
                self.assertEqual(whole, bottom(table, signs, weights))
                self.assertIs(is_flow(table, signs, flow), True)
                self.assertIs(is_tension(table, signs, tension), True)
                for weight, a, b, source in zip(weights, flow, tension, sources):
                    self.assertEqual(weight * a + b, whole * source)

    def test_bottom(self):
        for table, signs in TOLD:
            weights = some_weights(table.many)
            self.assertEqual(bottom(table, signs, weights), sum(
                prod(weights[line] for line in range(table.many) if line not in tree) for tree in trees_by(table)))
            self.assertEqual(bottom(table, signs, (1,) * table.many), tree_count(table))

    def test_judged(self):
        for table, signs in [(ROUNDS, RIGHT), (THREE, ROUND), (NONE1, ()), (ALL1, ((1,),))] + TOLD[::6]:
            weights, sources = some_weights(table.many), some_row(table.many, 9)
            value = currents(table, signs, weights, sources)
            goods = (table, signs, weights, sources)
            common = gcd(value[0], *value[1], *value[2])
            for top, down in ((1, 1), (2, 1), (1, common), (3, common), (10 ** 90, 1)):
                told = tuple(part * top // down if isinstance(part, int) else tuple(n * top // down for n in part)
                             for part in value)
                self.assertIs(are_currents(*goods, told), True)
                number, flow, tension = told
                wrong = [(-number, tuple(-n for n in flow), tuple(-n for n in tension)),
                         (0, (0,) * table.many, (0,) * table.many), (number + 1, flow, tension), told + (1,), told[:2],
                         (number, flow, tension + (0,)), (number, flow[1:], tension), (str(number), flow, tension)]
                for line in range(table.many):
                    other = flow[:line] + (flow[line] + 1,) + flow[line + 1:]
                    less = tension[:line] + (tension[line] - weights[line],) + tension[line + 1:]
                    wrong += [(number, other, tension), (number, flow, less), (number, other, less)]
                for value2 in wrong:
                    self.assertIs(are_currents(*goods, value2), False)

    def test_judge_takes_nothing_else(self):
        goods = (THREE, ROUND, (1, 1, 1), (1, 0, 0))
        self.assertIs(are_currents(*goods, (3, (1, 1, -1), (2, -1, 1))), True)
        for value in ((3, (True, 1, -1), (2, -1, 1)), (3, (1, 1, -1), (2, -1, True)), (3, [1, 1, -1], (2, -1, 1)),
                      [3, (1, 1, -1), (2, -1, 1)], (3, (1, 1, -1), [2, -1, 1]), ("3", (1, 1, -1), (2, -1, 1)),
                      ((3,), (1, 1, -1), (2, -1, 1)), (3, (2, -1, 1), (1, 1, -1)), (None, (1, 1, -1), (2, -1, 1)),
                      (3, (1, 1, -1)), (3, (1, 1, -1), (2, -1, 1), ()), (3, None, (2, -1, 1)), (3, (1, 1, "1"), FANO)):
            self.assertIs(are_currents(*goods, value), False)
        self.assertIs(are_currents(NONE1, (), (5,), (1,), (1, (0,), (1,))), True)
        self.assertIs(are_currents(NONE1, (), (5,), (1,), (True, (0,), (1,))), False)
        self.assertIs(are_currents(NONE1, (), (5,), (1,), (1, (False,), (1,))), False)
        for told in (goods, (ROUNDS, RIGHT, (1,) * 6, (0,) * 6), (NONE1, (), (1,), (0,))):
            self.check_never(are_currents, told)

    def test_great(self):
        signs = signs_or_bar(SIXTEEN)[1]
        goods = (SIXTEEN, signs, (MOST,) * 15 + (1,), (LONG, -LONG) * 8)
        before = time.perf_counter()
        value = currents(*goods)
        self.assertIs(are_currents(*goods, value), True)
        self.assertLess(time.perf_counter() - before, 2)
        one = tuple(tuple(1 if k == line else 0 for line in range(16)) for k in range(16))
        table = Table(16, tuple((k,) for k in range(16)))
        self.assertEqual(bottom(table, one, (MOST,) * 16), MOST ** 16)
        self.assertEqual(currents(table, one, (MOST,) * 16, (LONG,) * 16)[2], (0,) * 16)
        self.assertEqual(currents(Table(16, ()), (), (MOST,) * 16, (LONG,) * 16), (1, (0,) * 16, (LONG,) * 16))


class Shares(Case):
    """[17.5]"""

    def test_shares(self):
        for table, signs in TOLD:
            weights = some_weights(table.many)
            trees = {tree: prod(weights[line] for line in range(table.many) if line not in tree)
                     for tree in trees_by(table)}
            whole, total = sum(trees.values()), Fraction(0)
            for line in range(table.many):
                top, down = share(table, signs, weights, line)
                chance = Fraction(sum(number for tree, number in trees.items() if line in tree), whole)
                self.assertEqual((top, down), (chance.numerator, chance.denominator))
                self.assertEqual((type(top), type(down), gcd(top, down)), (int, int, 1))
                sources = tuple(int(k == line) for k in range(table.many))
                flow, tension = solved(table, signs, weights, sources)
                self.assertEqual((tension[line], weights[line] * flow[line]), (chance, 1 - chance))
                total += chance
            self.assertEqual(total, table.many - table.size)

    def test_equal_weights(self):
        for table, signs in TOLD[::3]:
            for line in range(table.many):
                chance = Fraction(trees_with(table)[line], tree_count(table))
                for weight in (1, MOST):
                    self.assertEqual(share(table, signs, (weight,) * table.many, line),
                                     (chance.numerator, chance.denominator))

    def test_edges(self):
        self.assertEqual([share(NONE1, (), (5,), 0), share(ALL1, ((1,),), (5,), 0)], [(1, 1), (0, 1)])
        self.assertEqual(share(THREE, ROUND, (1, 1, MOST), 2), (1, MOST // 2 + 1))


class Exchanged(Case):
    """[17.6]"""

    def test_exchanged(self):
        for table, signs in TOLD:
            weights = some_weights(table.many)
            one = [tuple(int(k == line) for k in range(table.many)) for line in range(table.many)]
            flows = [currents(table, signs, weights, sources)[1] for sources in one]
            for a, b in itertools.combinations(range(table.many), 2):
                self.assertEqual(flows[a][b], flows[b][a])


class Least(Case):
    """[17.7]"""

    def test_least(self):
        for table, signs in TOLD[::2]:
            weights, sources = some_weights(table.many), some_row(table.many, 20)
            whole, flow, _ = currents(table, signs, weights, sources)
            flow = [Fraction(number, whole) for number in flow]

            def cost(row):
                return sum(w * x * x - 2 * s * x for w, s, x in zip(weights, sources, row))
            for _ in range(8):
                change = made_of(signs, some_row(table.size, 3), table.many)
                part = Fraction(CHANCE.choice((1, 1, -2)), CHANCE.choice((1, 7, 1000)))
                other = [x + part * d for x, d in zip(flow, change)]
                if any(change):
                    self.assertGreater(cost(other), cost(flow))


class Wrong(Case):
    def test_wrong(self):
        tables = (InvalidTable, NOT_TABLES)
        rows = [list(RIGHT[0]), (True, 0, -1, 0, 1, 0), (1, 0, 2, 0, 1, 0), (1, 0, -1, 0, 0, 0), (1, 0, -1, 0, 1), None]
        signs = (InvalidSigns, [None, (), RIGHT[:2], RIGHT + RIGHT[:1], list(RIGHT), True, "signs", {}, FANO]
                 + [(row,) + RIGHT[1:] for row in rows])
        wrong = [None, (), (1,) * 5, (1,) * 7, [1] * 6, (True,) + (1,) * 5, ("1",) + (1,) * 5, (1,) * 5 + (None,),
                 (1,) * 5 + (10 ** 60,), (1,) * 5 + (-(10 ** 99),), {}, 1, FANO, ((1,) * 6,), (1,) * 5 + (False,)]
        row = (InvalidRow, wrong)
        weights = (InvalidRow, wrong + [(1,) * 5 + (0,), (1,) * 5 + (MOST + 1,), (-1,) * 6, (LONG,) * 6])
        # Signs that are not right come behind all others.
        for told in (RIGHT, ONES):
            for function in (flow_or_cut, tension_or_ring):
                self.check_wrong(function, (ROUNDS, told, (1, 2, 3, 4, 5, 6)), [tables, signs, row])
            self.check_wrong(bottom, (ROUNDS, told, (1,) * 6), [tables, signs, weights])
            self.check_wrong(currents, (ROUNDS, told, (1,) * 6, (0,) * 6), [tables, signs, weights, row])
            self.check_wrong(share, (ROUNDS, told, (1,) * 6, 0),
                             [tables, signs, weights, (InvalidNumber, not_numbers(0, 5))])
            for judge in (is_flow, is_tension):
                self.check_judge_wrong(judge, (ROUNDS, told), RIGHT[0], [tables, signs])
            for judge, right in ((is_flow_or_cut, ("flow", (1, 0, 0))), (is_tension_or_ring, ("ring", RIGHT[0]))):
                self.check_judge_wrong(judge, (ROUNDS, told, RIGHT[0]), right, [tables, signs, row])
            self.check_judge_wrong(are_currents, (ROUNDS, told, (1,) * 6, (0,) * 6), (1, (0,) * 6, (0,) * 6),
                                   [tables, signs, weights, row])

    def calls(self, many):
        weights, row = (1,) * many, (0,) * many
        return [(is_flow, (row,)), (is_flow, (None,)), (is_tension, (row,)), (flow_or_cut, (row,)),
                (is_flow_or_cut, (row, None)), (tension_or_ring, (row,)), (is_tension_or_ring, (row, ("tension",))),
                (bottom, (weights,)), (currents, (weights, row)), (are_currents, (weights, row, None)),
                (share, (weights, 0))]

    def test_not_right(self):
        self.assertIs(are_right_signs(ROUNDS, ONES), False)
        for function, more in self.calls(6):
            self.check_error(InvalidOperation, {}, function, ROUNDS, ONES, *more)
        for table in (FANO, opposite(FANO)):
            for function, more in self.calls(7):
                self.check_error(InvalidOperation, {}, function, table, some_signs(table), *more)

    def test_seventeen(self):
        right = ((1, 1) + (0,) * 14 + (1,), (0, 0, 1) + (0,) * 13 + (-1,))
        table = beside(ROUNDS, Table(11, ()))
        bent = tuple(row + (0,) * 11 for row in ONES)
        for told, signs in ((SEVENTEEN, right), (table, bent), (Table(24, ()), ())):
            for function, more in self.calls(told.many):
                self.check_error(TooMany, {"limit": 16}, function, told, signs, *more)
        for function, more in self.calls(17):
            self.check_error(InvalidSigns, {}, function, SEVENTEEN, right[::-1], *more)
        self.check_error(InvalidRow, {}, bottom, SEVENTEEN, right, (0,) * 17)
        self.check_error(InvalidNumber, {"given": 17}, share, SEVENTEEN, right, (1,) * 17, 17)
        self.check_error(InvalidRow, {}, currents, SEVENTEEN, right, (1,) * 17, (1,) * 16)


class NotTrue(Case):
    """[17.8]"""

    def test_made_of_fractions(self):
        whole, flow, _ = currents(THREE, ROUND, (1, 1, 1), (1, 0, 0))
        self.assertTrue(all(number % whole for number in flow))

    def test_line_without_source(self):
        self.assertNotEqual(currents(THREE, ROUND, (1, 1, 1), (1, 0, 0))[1][2], 0)

    def test_greater_weight(self):
        # Between two ways, more flow goes on the one if the other one gets heavier.
        net = Net(2, ((0, 1),) * 3)
        table, signs = table_of(net), net_signs(net)
        one = currents(table, signs, (1, 1, 1), (1, 0, 0))
        other = currents(table, signs, (1, 9, 1), (1, 0, 0))
        self.assertGreater(abs(Fraction(other[1][2], other[0])), abs(Fraction(one[1][2], one[0])))

    def test_great_nets(self):
        net = whole_net(6)
        table, signs = table_of(net), net_signs(net)
        self.assertEqual(share(table, signs, (1,) * 15, 3), (1, 3))
        self.assertEqual(bottom(table, signs, (1,) * 15), 6 ** 4)
