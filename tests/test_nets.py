"""Stage 6: nets."""

import itertools

from ringtables.errors import InvalidLot, InvalidNet, InvalidNumber, InvalidOperation, InvalidTable, Refused, TooMany
from ringtables.net import nets as module
from ringtables.net.nets import Net, is_net_of, is_walk, net_beside, net_join, net_out, net_tied, one_piece, pieces_of
from ringtables.net.nets import shores, star, table_of, walk_of
from ringtables.table.tables import Table, opposite
from tests.support import FANO, NOT_NETS, NOT_TABLES, ROUNDS, STRANGE, WHEEL, Case, add, lesser_sums, not_lots
from tests.support import not_numbers, opposite_of, picked_nets, rings_of, subsets, sums_of, table_by, table_sums

LOOP = Net(1, ((0, 0),))
LINE = Net(2, ((0, 1),))
APART = Net(6, ((0, 1), (3, 5), (3, 5), (5, 5), (0, 1)))
LOOPS = Net(1, ((0, 0),) * 24)
LONG = Net(25, tuple((k, k + 1) for k in range(24)))
ROUND = Net(24, tuple((k, k + 1) for k in range(23)) + ((0, 23),))
LONE = Net(25, ((7, 7),))
THICK = Net(2, ((0, 1),) * 24)
EDGES = [LOOP, LINE, APART, LOOPS, LONG, ROUND, LONE, THICK, Net(2, ((0, 0), (1, 1))), Net(25, ((0, 24),) * 24)]
NETS = picked_nets(5, 60, 5, 6) + [WHEEL, LOOP, LINE, APART]


def sums_by_knots(net):
    """All lots with an even number of line ends at each knot."""
    found = set()
    for lot in subsets(range(len(net.lines))):
        ends = [knot for line in lot for knot in net.lines[line]]
        if all(ends.count(knot) % 2 == 0 for knot in range(net.knots)):
            found.add(lot)
    return found


def pieces_by(knots, lines):
    """The pieces, by walking from each knot as far as it goes."""
    found = set()
    for knot in range(knots):
        piece = {knot}
        for _ in range(knots):
            for low, high in lines:
                if low in piece or high in piece:
                    piece |= {low, high}
        found.add(tuple(sorted(piece)))
    return tuple(sorted(found))


def does_walk(net, ring, value):
    """Whether the value is a walk of the lot: all lines, from knot to knot and back, no knot twice."""
    if sorted(value) != list(ring):
        return False
    for knot in net.lines[value[0]]:
        met = [knot]
        for line in value:
            low, high = net.lines[line]
            if met[-1] not in (low, high):
                break
            met.append(high if met[-1] == low else low)
        else:
            if met[-1] == knot and len(set(met)) == len(value):
                return True
    return False


class Constants(Case):
    def test_constants(self):
        self.assertEqual((module.MOST_KNOTS, module.MOST_LINES), (25, 24))


class Made(Case):
    """class Net"""

    def test_properties(self):
        for net in EDGES + NETS:
            again = Net(net.knots, tuple(net.lines))
            self.assertIs(again == net, True)
            self.assertIs(again != net, False)
            self.assertEqual(str(net), f"net of {net.knots} knots, {len(net.lines)} lines")
        net = Net(3, ((0, 2), (1, 1)))
        self.assertEqual((net.knots, net.lines), (3, ((0, 2), (1, 1))))

    def test_equal(self):
        for one, other in itertools.product(NETS + EDGES, repeat=2):
            self.assertIs(one == other, (one.knots, one.lines) == (other.knots, other.lines))
            self.assertIs(one != other, not one == other)
        self.assertIs(Net(2, ((0, 0),)) == LOOP, False)
        self.assertIs(Net(2, ((0, 0), (0, 1))) == Net(2, ((0, 1), (0, 0))), False)

    def test_equal_takes_every_value(self):
        for value in STRANGE + ((4, WHEEL.lines), ROUNDS, 1.5, object(), Net):
            if not isinstance(value, Net):
                self.assertIs(WHEEL == value, False)
                self.assertIs(WHEEL != value, True)
                self.assertIs(value == WHEEL, False)
                self.assertIs(WHEEL in [value], False)
        self.assertIs(WHEEL in (None, Net(4, WHEEL.lines)), True)

    def test_no_change(self):
        for name in ("knots", "lines"):
            with self.assertRaises(AttributeError):
                setattr(WHEEL, name, 3)

    def test_not_iterated(self):
        self.assertRaises(TypeError, iter, WHEEL)

    def test_wrong(self):
        lines = [((0, 4),), ((1, 0),), None, [(0, 1)], (), True, 0, "01", {}, ([0, 1],), ((0, True),), ((False, 1),),
                 ((0, 1, 1),), ((0,),), ((),), (0, 1), ((-1, 0),), ((0, 1),) * 25, ((0, 1), None), ((0, "1"),),
                 (((0,), (1,)),), ((0, 10 ** 60),), WHEEL, ((0, 1), (2, 1)), ("01",)]
        self.check_wrong(Net, (4, ((0, 1),)), [(InvalidNet, not_numbers(1, 25)), (InvalidNet, lines)])
        self.check_error(InvalidNet, {}, Net, 1, ((0, 1),))
        self.check_error(InvalidNet, {}, Net, 25, ((0, 25),))
        self.check_error(InvalidNet, {}, Net, 26, ((0, 1),))


class Tables(Case):
    """[6.1], and the table of a net [0.11]"""

    def test_table_of(self):
        for net in NETS:
            table = table_of(net)
            self.assertEqual(table.many, len(net.lines))
            self.assertEqual(table_sums(table), sums_by_knots(net))
            self.assertEqual(table.lots, table.form)
            self.assertEqual(table.size, len(net.lines) - net.knots + len(pieces_of(net)))
        self.assertEqual(table_of(LOOPS), Table(24, tuple((k,) for k in range(24))))
        self.assertEqual(table_of(LONG), Table(24, ()))
        self.assertEqual(table_of(ROUND), Table(24, (tuple(range(24)),)))
        self.assertEqual(table_of(LONE), Table(1, ((0,),)))
        self.assertEqual(table_of(THICK), Table(24, tuple((k, k + 1) for k in range(23))))

    def test_pieces_of(self):
        for net in NETS + EDGES:
            self.assertEqual(pieces_of(net), pieces_by(net.knots, net.lines))
        self.assertEqual(pieces_of(LONE), tuple((k,) for k in range(25)))
        self.assertEqual(pieces_of(LONG), (tuple(range(25)),))
        self.assertEqual(pieces_of(APART), ((0, 1), (2,), (3, 5), (4,)))

    def test_is_net_of(self):
        for one, other in itertools.product(NETS, repeat=2):
            table = table_of(one)
            same = len(one.lines) == len(other.lines) and sums_by_knots(one) == sums_by_knots(other)
            self.assertIs(is_net_of(table, other), same)
        for value in (None, True, 3, "net", (), [], {}, ROUNDS, (4, WHEEL.lines), [WHEEL], InvalidNet("a net")):
            self.assertIs(is_net_of(ROUNDS, value), False)
        for value in STRANGE:
            self.assertIs(is_net_of(ROUNDS, value), value is WHEEL)
        self.assertIs(is_net_of(FANO, WHEEL), False)

    def test_star(self):
        for net in NETS + EDGES:
            for knot in range(net.knots):
                self.assertEqual(star(net, knot), tuple(line for line, pair in enumerate(net.lines)
                                                        if knot in pair and pair[0] != pair[1]))

    def test_wrong(self):
        for function in (table_of, pieces_of, one_piece):
            self.check_wrong(function, (WHEEL,), [(InvalidNet, NOT_NETS)])
        self.check_wrong(is_net_of, (ROUNDS, WHEEL), [(InvalidTable, NOT_TABLES)])
        self.check_wrong(star, (WHEEL, 0), [(InvalidNet, NOT_NETS), (InvalidNumber, not_numbers(0, 3))])


class Walks(Case):
    """[6.2]"""

    def test_rings_are_walked(self):
        for net in NETS:
            rings = rings_of(sums_by_knots(net))
            for lot in subsets(range(len(net.lines))):
                if lot not in rings:
                    for value in itertools.permutations(lot[:4]):
                        self.assertFalse(lot and len(lot) < 5 and does_walk(net, lot, value))
                    self.check_error(InvalidOperation, {}, walk_of, net, lot)
                    self.check_error(InvalidOperation, {}, is_walk, net, lot, lot)
                    continue
                self.assertTrue(does_walk(net, lot, walk_of(net, lot)))
                self.assertIs(is_walk(net, lot, walk_of(net, lot)), True)
                self.check_judged(is_walk, (net, lot), itertools.permutations(lot),
                                  lambda value: does_walk(net, lot, value))

    def test_longer_rings(self):
        for knots in (5, 6):
            net = Net(knots, tuple((k, k + 1) for k in range(knots - 1)) + ((0, knots - 1),))
            ring = tuple(range(knots))
            taken = self.check_judged(is_walk, (net, ring), itertools.permutations(ring),
                                      lambda value: does_walk(net, ring, value))
            self.assertEqual(taken, 2 * knots)
        # Each line's ends sum up as if one came back, but the lines do not stand one behind the other.
        self.assertIs(is_walk(net, ring, (0, 1, 5, 2, 4, 3)), False)

    def test_judge_takes_nothing_else(self):
        ring = (1, 2, 3, 4)
        self.check_takes(is_walk, (WHEEL, ring), (3, 1, 2, 4))
        self.check_takes(is_walk, (WHEEL, ring), (1, 2, 4, 3))
        self.check_takes(is_walk, (LOOP, (0,)), (0,))
        self.check_takes(is_walk, (THICK, (0, 23)), (23, 0))
        self.check_never(is_walk, (WHEEL, (0, 1, 3)))
        for value in ((1, 4, 2, 3), (1, 2, 4), (1, 2, 4, 3, 1), (1, 2, 4, 4), (), (0, 1, 3), (1, 2, 4, 24)):
            self.assertIs(is_walk(WHEEL, ring, value), False)

    def test_great(self):
        every = tuple(range(24))
        self.assertIs(is_walk(ROUND, every, walk_of(ROUND, every)), True)
        self.assertIs(is_walk(ROUND, every, every[5:] + every[:5]), True)
        self.assertIs(is_walk(ROUND, every, every[::-1]), True)
        self.assertIs(is_walk(ROUND, every, every[1:2] + every[:1] + every[2:]), False)
        self.assertEqual(walk_of(LOOPS, (23,)), (23,))

    def test_wrong(self):
        rings = not_lots(6)
        wrongs = [(InvalidNet, NOT_NETS), (InvalidLot, rings)]
        self.check_wrong(walk_of, (WHEEL, (0, 1, 3)), wrongs)
        self.check_wrong(is_walk, (WHEEL, (0, 1, 3), None), wrongs)
        for lot in ((), (0,), (0, 1), (0, 1, 2, 3, 4, 5), (0, 1, 3, 4)):
            for function, more in ((walk_of, ()), (is_walk, (None,))):
                self.check_error(InvalidOperation, {}, function, WHEEL, lot, *more)
        self.check_error(InvalidNet, {}, walk_of, None, (0,))


class Shores(Case):
    """[6.3]"""

    def test_opposite_is_lines_between_knots(self):
        for net in NETS:
            between = {tuple(line for line, pair in enumerate(net.lines) if (pair[0] in some) != (pair[1] in some))
                       for some in subsets(range(net.knots))}
            other = table_sums(opposite(table_of(net)))
            self.assertEqual(other, between)
            self.assertEqual(other, opposite_of(len(net.lines), sums_by_knots(net)))
            self.assertEqual(other, sums_of([star(net, knot) for knot in range(net.knots)]))
            for piece in pieces_of(net):
                self.assertEqual(add(*[star(net, knot) for knot in piece]), ())

    def test_shores(self):
        for net in NETS:
            cuts = rings_of(table_sums(opposite(table_of(net))))
            for lot in subsets(range(len(net.lines))):
                if lot not in cuts:
                    self.check_error(InvalidOperation, {}, shores, net, lot)
                    continue
                low, high = shores(net, lot)
                rest = pieces_by(net.knots, [pair for line, pair in enumerate(net.lines) if line not in lot])
                self.assertIn(low, rest)
                self.assertIn(high, rest)
                self.assertLess(low[0], high[0])
                for line in lot:
                    self.assertEqual({knot in low for knot in net.lines[line]}, {True, False})
                    self.assertEqual({knot in high for knot in net.lines[line]}, {True, False})
                self.assertEqual(len(rest), len(pieces_of(net)) + 1)

    def test_edges(self):
        self.assertEqual(shores(LONG, (23,)), (tuple(range(24)), (24,)))
        self.assertEqual(shores(THICK, tuple(range(24))), ((0,), (1,)))
        self.assertEqual(shores(APART, (1, 2)), ((3,), (5,)))
        self.assertEqual(shores(ROUND, (0, 23)), ((0,), tuple(range(1, 24))))

    def test_wrong(self):
        self.check_wrong(shores, (WHEEL, (0, 1, 2)), [(InvalidNet, NOT_NETS), (InvalidLot, not_lots(6))])
        for lot in ((), (0,), (0, 1), (0, 1, 3), (0, 1, 2, 3, 4, 5)):
            self.check_error(InvalidOperation, {}, shores, WHEEL, lot)


class Lesser(Case):
    """[6.4]"""

    def test_lesser_nets(self):
        for net in NETS:
            for line, (low, high) in enumerate(net.lines):
                if len(net.lines) == 1:
                    continue
                out, joined = net_out(net, line), net_join(net, line)
                rest = net.lines[:line] + net.lines[line + 1:]
                self.assertEqual((out.knots, out.lines), (net.knots, rest))
                self.assertEqual(table_sums(table_of(out)), lesser_sums(table_of(net), (line,), ()))
                self.assertEqual(table_sums(table_of(joined)), lesser_sums(table_of(net), (), (line,)))
                if low == high:
                    self.assertEqual((joined.knots, joined.lines), (net.knots, rest))
                    continue
                self.assertEqual(joined.knots, net.knots - 1)
                names = [low if knot == high else knot - (knot > high) for knot in range(net.knots)]
                self.assertEqual(joined.lines, tuple(tuple(sorted((names[a], names[b]))) for a, b in rest))

    def test_edges(self):
        self.assertEqual(net_join(Net(3, ((0, 2), (1, 2))), 0), Net(2, ((0, 1),)))
        self.assertEqual(net_join(LOOPS, 3), Net(1, ((0, 0),) * 23))
        self.assertEqual(net_join(THICK, 23), Net(1, ((0, 0),) * 23))
        self.assertEqual(net_join(LONG, 0), Net(24, ((0, 1),) + tuple((k, k + 1) for k in range(1, 23))))
        self.assertEqual(net_out(LONG, 0).knots, 25)
        for net in (LOOP, LINE, LONE):
            for function in (net_out, net_join):
                self.check_error(Refused, {"reason": ("nothing",)}, function, net, 0)

    def test_wrong(self):
        for function in (net_out, net_join):
            self.check_wrong(function, (WHEEL, 0), [(InvalidNet, NOT_NETS), (InvalidNumber, not_numbers(0, 5))])
            self.check_wrong(function, (LINE, 0), [(InvalidNet, NOT_NETS), (InvalidNumber, not_numbers(0, 0))])


class Together(Case):
    """[6.5], and nets beside one another"""

    def test_beside(self):
        for one, other in itertools.product(NETS[::3] + [APART, LOOP], repeat=2):
            net = net_beside(one, other)
            self.assertEqual(net.knots, one.knots + other.knots)
            self.assertEqual(net.lines, one.lines + tuple((low + one.knots, high + one.knots)
                                                          for low, high in other.lines))
            shifted = {tuple(line + len(one.lines) for line in lot) for lot in sums_by_knots(other)}
            self.assertEqual(table_sums(table_of(net)),
                             {lot + more for lot in sums_by_knots(one) for more in shifted})

    def test_beside_bounds(self):
        half = Net(12, ((0, 1),) * 12)
        self.assertEqual(net_beside(half, Net(13, ((0, 1),) * 12)).knots, 25)
        self.check_error(TooMany, {"limit": 24}, net_beside, half, Net(2, ((0, 1),) * 13))
        self.check_error(TooMany, {"limit": 25}, net_beside, half, Net(14, ((0, 1),)))
        self.check_error(TooMany, {"limit": 25}, net_beside, LONE, LOOP)
        # More lines, and more knots: lines come first.
        self.check_error(TooMany, {"limit": 24}, net_beside, LONG, LONG)
        self.check_wrong(net_beside, (LONG, LONG), [(InvalidNet, NOT_NETS), (InvalidNet, NOT_NETS)])

    def test_tied(self):
        chosen = [net for net in NETS if any(low != high for low, high in net.lines)]
        for one, other in itertools.product(chosen[:14], chosen[:14]):
            for line, further, side in itertools.product(range(len(one.lines)), range(len(other.lines)), (0, 1)):
                self.check_tied(one, line, other, further, side)

    def check_tied(self, one, line, other, further, side):
        ends, more = one.lines[line], other.lines[further]
        if ends[0] == ends[1] or more[0] == more[1]:
            self.check_error(Refused, {"reason": ("loop",)}, net_tied, one, line, other, further, side)
            return
        if len(one.lines) + len(other.lines) == 2:
            self.check_error(Refused, {"reason": ("nothing",)}, net_tied, one, line, other, further, side)
            return
        net = net_tied(one, line, other, further, side)
        self.assertEqual(net.knots, one.knots + other.knots - 2)
        others = [knot for knot in range(other.knots) if knot not in more]
        names = {knot: one.knots + k for k, knot in enumerate(others)}
        names[more[0]], names[more[1]] = ends if side == 0 else ends[::-1]
        lines = [pair for k, pair in enumerate(one.lines) if k != line]
        lines += [tuple(sorted((names[a], names[b]))) for k, (a, b) in enumerate(other.lines) if k != further]
        self.assertEqual(net.lines, tuple(lines))
        shift = len(one.lines) - 1
        tied = set()
        for lot, second in itertools.product(sums_by_knots(one), sums_by_knots(other)):
            if (line in lot) == (further in second):
                tied.add(tuple(k - (k > line) for k in lot if k != line)
                         + tuple(k - (k > further) + shift for k in second if k != further))
        self.assertEqual(table_sums(table_of(net)), tied)

    def test_tied_bounds(self):
        self.assertEqual(len(net_tied(THICK, 0, LINE, 0, 0).lines), 23)
        self.assertEqual(len(net_tied(THICK, 0, Net(2, ((0, 1),) * 2), 0, 1).lines), 24)
        self.check_error(TooMany, {"limit": 24}, net_tied, THICK, 0, Net(2, ((0, 1),) * 3), 0, 1)
        self.assertEqual(net_tied(LONG, 0, Net(2, ((0, 1),)), 0, 0).knots, 25)
        self.check_error(TooMany, {"limit": 25}, net_tied, LONG, 0, Net(3, ((0, 1),)), 0, 0)
        self.check_error(TooMany, {"limit": 24}, net_tied, LONG, 0, LONG, 23, 0)
        self.check_error(Refused, {"reason": ("nothing",)}, net_tied, LINE, 0, Net(25, ((0, 1),)), 0, 0)
        self.check_error(Refused, {"reason": ("loop",)}, net_tied, LOOP, 0, LINE, 0, 0)
        self.check_error(Refused, {"reason": ("loop",)}, net_tied, LINE, 0, LOOP, 0, 1)
        self.check_error(Refused, {"reason": ("loop",)}, net_tied, LOOPS, 0, LOOPS, 0, 1)

    def test_wrong(self):
        wrongs = [(InvalidNet, NOT_NETS), (InvalidNumber, not_numbers(0, 5)), (InvalidNet, NOT_NETS),
                  (InvalidNumber, not_numbers(0, 0)), (InvalidNumber, not_numbers(0, 1))]
        self.check_wrong(net_tied, (WHEEL, 0, LINE, 0, 1), wrongs)
        # Refused and TooMany are behind all others.
        wrongs[1] = (InvalidNumber, not_numbers(0, 23))
        wrongs[3] = (InvalidNumber, not_numbers(0, 23))
        self.check_wrong(net_tied, (LOOPS, 0, LOOPS, 0, 1), wrongs)
        self.check_wrong(net_tied, (LONG, 0, LONG, 0, 1), wrongs)
        self.check_wrong(net_beside, (WHEEL, LINE), [(InvalidNet, NOT_NETS), (InvalidNet, NOT_NETS)])


class OnePiece(Case):
    """[6.6]"""

    def test_one_piece(self):
        for net in NETS + EDGES:
            other = one_piece(net)
            table = table_of(net)
            self.assertIs(is_net_of(table, other), True)
            self.assertEqual(len(pieces_of(other)), 1)
            self.assertEqual(other.knots, table.many - table.size + 1)
            self.assertLessEqual(other.knots, net.knots)

    def test_knots_of_unlike_pieces_become_one(self):
        for net in NETS:
            pieces = pieces_of(net)
            for low, high in itertools.combinations(range(net.knots), 2):
                if not any(low in piece and high in piece for piece in pieces):
                    names = [low if knot == high else knot for knot in range(net.knots)]
                    glued = Net(net.knots, tuple(tuple(sorted((names[a], names[b]))) for a, b in net.lines))
                    self.assertEqual(table_of(glued), table_of(net))


class NotTrue(Case):
    """[6.7]"""

    def test_star_that_is_no_cut(self):
        net = Net(3, ((0, 1), (1, 2)))
        self.check_error(InvalidOperation, {}, shores, net, star(net, 1))

    def test_equal_tables_unlike_knots(self):
        self.assertEqual(table_of(LOOP), table_of(Net(2, ((0, 0),))))

    def test_even_lot_that_is_no_ring(self):
        net = Net(5, ((0, 1), (1, 2), (0, 2), (2, 3), (3, 4), (2, 4)))
        self.assertEqual(max(sums_by_knots(net), key=len), (0, 1, 2, 3, 4, 5))
        self.check_error(InvalidOperation, {}, walk_of, net, (0, 1, 2, 3, 4, 5))

    def test_unlike_nets_of_one_table(self):
        one, other = (net_tied(WHEEL, 5, WHEEL, 0, side) for side in (0, 1))
        self.assertEqual(table_of(one), table_of(other))
        self.assertIs(one == other, False)
        self.assertEqual(table_by(10, table_sums(table_of(one))), table_of(other))
