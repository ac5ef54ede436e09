"""Stage 14: faces, and opposite nets."""

import itertools
import random

from ringtables.errors import InvalidNet, InvalidOperation, Refused
from ringtables.main.bars import is_bar
from ringtables.main.flat import are_faces, faces_by, faces_or_bar, is_faces_or_bar, is_opposite, is_short_lot
from ringtables.main.flat import net_by_faces, opposite_net, outer, short_lot
from ringtables.main.kinds import kind
from ringtables.net.nets import Net, net_beside, pieces_of, star, table_of
from ringtables.table.rings import is_ring
from ringtables.table.tables import opposite
from ringtables.table.trees import is_tree
from tests.support import NOT_NETS, STRANGE, WHEEL, Case, add, hanging_net, picked_nets, subsets, sums_of
from tests.support import table_sums, unlike_net, whole_net

CHANCE = random.Random(71)
SIDES = ((0, 1, 3), (0, 2, 4), (1, 2, 5))
SIXES = Net(6, tuple((a, b) for a in range(3) for b in range(3, 6)))
LOOP, LINE, LONG = Net(1, ((0, 0),)), Net(2, ((0, 1),)), Net(25, tuple((k, k + 1) for k in range(24)))
LOOPS, THICK = Net(1, ((0, 0),) * 24), Net(2, ((0, 1),) * 24)
APART = Net(6, ((0, 1), (3, 5), (3, 5), (5, 5), (0, 1)))
CUBE = Net(8, tuple((a, b) for a in range(8) for b in range(8) if a < b and (a ^ b) in (1, 2, 4)))
# Two rings of eight knots each, one within the other, with lines from the one to the other.
EIGHT = Net(16, tuple((k, (k + 1) % 8) if k < 7 else (0, 7) for k in range(8))
            + tuple((k, k + 8) for k in range(8))
            + tuple((k + 8, (k + 1) % 8 + 8) if k < 7 else (8, 15) for k in range(8)))
NETS = picked_nets(72, 40, 5, 7) + [hanging_net(CHANCE, 6, 9) for _ in range(20)] + [WHEEL, LOOP, LINE, APART]
BARRED = [whole_net(5), SIXES, whole_net(6), Net(5, whole_net(5).lines + ((0, 1), (2, 2))), net_beside(SIXES, WHEEL)]


def are_faces_by(net, value):
    """Whether lots are faces: as many sums as the size, which make all sums, no line in three."""
    table = table_of(net)
    if len(value) != table.size or not set(value) <= table_sums(table):
        return False
    if any(sum(line in lot for lot in value) > 2 for line in range(table.many)):
        return False
    return sums_of(value) == table_sums(table)


def every_faces(net):
    return [value for value in itertools.permutations(sorted(table_sums(table_of(net))), table_of(net).size)
            if are_faces_by(net, value)]


def faces_of(net):
    return faces_or_bar(net)[1]


class Faces(Case):
    """[14.1]"""

    def test_judged(self):
        for net in [net for net in NETS if table_of(net).size < 4] + [WHEEL]:
            table = table_of(net)
            sums = sorted(table_sums(table)) + [(table.many,), (0, 0), tuple(range(table.many))]
            values = [value for k in (table.size, table.size + 1, max(table.size - 1, 0))
                      for value in itertools.permutations(sums[:9], k)]
            self.check_judged(are_faces, (net,), values, lambda value: are_faces_by(net, value))

    def test_outer(self):
        for net in NETS:
            faces = faces_of(net)
            self.assertIs(are_faces(net, faces), True)
            self.assertTrue(are_faces_by(net, faces))
            self.assertEqual(outer(net, faces), add(*faces))
            lots = faces + (outer(net, faces),)
            for line in range(len(net.lines)):
                in_rings = any(line in lot for lot in table_sums(table_of(net)))
                self.assertEqual(sum(line in lot for lot in lots), 2 if in_rings else 0)

    def test_all_faces(self):
        for net in [net for net in NETS if 0 < table_of(net).size < 4]:
            for faces in every_faces(net):
                self.assertIs(are_faces(net, faces), True)
                self.assertIs(are_faces(net, faces[::-1]), True)
                other = net_by_faces(net, faces)
                self.assertEqual(table_of(other), opposite(table_of(net)))
                self.assertEqual(faces_by(net, net_by_faces(net, faces)) == (), faces == ())

    def test_judge_takes_nothing_else(self):
        self.check_takes(are_faces, (WHEEL,), SIDES)
        self.check_takes(are_faces, (LOOP,), ((0,),))
        for net in (WHEEL, LOOP, THICK, APART, whole_net(5)):
            self.check_never(are_faces, (net,))
        for net in (LINE, LONG):
            for value in STRANGE:
                self.assertIs(are_faces(net, value), isinstance(value, tuple) and value == ())
        for value in (SIDES[:2], SIDES + SIDES[:1], SIDES[:2] + ((0, 2, 4),), SIDES[:2] + ((1, 2, 3, 4),),
                      SIDES[:2] + ((),), ((), ()) + SIDES, ((0, 1, 3), (0, 2, 4), (0, 1, 4, 5))):
            self.assertIs(are_faces(WHEEL, value), False)

    def test_edges(self):
        self.assertEqual(outer(LINE, ()), ())
        self.assertEqual(outer(LOOP, ((0,),)), (0,))
        self.assertEqual(outer(LOOPS, tuple((k,) for k in range(24))), tuple(range(24)))
        self.assertEqual(outer(THICK, tuple((k, k + 1) for k in range(23))), (0, 23))
        # Faces of several pieces: their outer lots are one.
        self.assertEqual(outer(APART, ((0, 4), (1, 2), (3,))), (0, 1, 2, 3, 4))


class OppositeNets(Case):
    """[14.2], [14.3], [14.5], [14.6]"""

    def test_net_by_faces(self):
        for net in NETS:
            faces = faces_of(net)
            other = net_by_faces(net, faces)
            lots = faces + (outer(net, faces),)
            self.assertEqual(other.knots, len(faces) + 1)
            for line, pair in enumerate(other.lines):
                told = tuple(k for k, lot in enumerate(lots) if line in lot)
                self.assertEqual(pair, told if told else (len(faces), len(faces)))
            for k, lot in enumerate(lots):
                self.assertEqual(star(other, k), lot)
            self.assertIs(is_opposite(net, other), True)
            self.assertIs(is_opposite(other, net), True)
            self.assertEqual(table_of(other), opposite(table_of(net)))

    def test_faces_by(self):
        for net in NETS:
            for other in (opposite_net(net), unlike_net(CHANCE, opposite_net(net)), net_by_faces(net, faces_of(net))):
                self.assertIs(is_opposite(net, other), True)
                told = faces_by(net, other)
                least = [piece[0] for piece in pieces_of(other)]
                self.assertEqual(told, tuple(star(other, k) for k in range(other.knots) if k not in least))
                self.assertIs(are_faces(net, told), True)
                again = net_by_faces(net, told)
                self.assertEqual(table_of(again), opposite(table_of(net)))

    def test_counts(self):
        for net in NETS:
            for other in (opposite_net(net), unlike_net(CHANCE, opposite_net(net))):
                told = net.knots + other.knots - len(pieces_of(net)) - len(pieces_of(other))
                self.assertEqual(told, len(net.lines))

    def test_trees(self):
        for net in NETS[::3]:
            other = opposite_net(net)
            every = range(len(net.lines))
            for lot in subsets(every):
                rest = tuple(line for line in every if line not in lot)
                self.assertIs(is_tree(table_of(net), lot), is_tree(table_of(other), rest))

    def test_is_opposite(self):
        others = [opposite_net(net) for net in NETS]
        for net, other in itertools.product(NETS, others):
            right = len(net.lines) == len(other.lines) and table_of(other) == opposite(table_of(net))
            self.assertIs(is_opposite(net, other), right)
        for net in (WHEEL, LOOP, THICK):
            for value in STRANGE:
                self.assertIs(is_opposite(net, value), False)
            self.check_never(is_opposite, (net,))

    def test_edges(self):
        self.assertEqual(net_by_faces(LONG, ()), Net(1, ((0, 0),) * 24))
        singles = tuple((k,) for k in range(24))
        self.assertEqual(net_by_faces(LOOPS, singles), Net(25, tuple((k, 24) for k in range(24))))
        self.assertEqual(faces_by(LONG, Net(3, ((1, 1),) * 24)), ())
        self.assertEqual(faces_by(LOOP, Net(2, ((0, 1),))), ((0,),))
        self.assertEqual(faces_by(LOOP, Net(4, ((1, 3),))), ((0,),))
        # A net in two pieces: the least knot of each is left out.
        self.assertEqual(faces_by(Net(2, ((0, 0), (1, 1))), Net(4, ((0, 2), (1, 3)))), ((0,), (1,)))
        self.assertEqual(table_of(opposite_net(THICK)), opposite(table_of(THICK)))


class EitherOr(Case):
    """[14.4]"""

    def test_either_or(self):
        for net in NETS + BARRED + picked_nets(73, 30, 7, 14):
            word, told = value = faces_or_bar(net)
            self.assertIs(is_faces_or_bar(net, value), True)
            is_flat = kind(table_of(net)) == "flat"
            self.assertEqual(word == "faces", is_flat)
            if is_flat:
                self.assertTrue(are_faces(net, told))
                self.assertIs(is_opposite(net, opposite_net(net)), True)
            else:
                self.assertIn(told[0], ("five", "six"))
                self.assertIs(is_bar(opposite(table_of(net)), told), True)
                self.check_error(Refused, {"reason": ("barred",)}, opposite_net, net)

    def test_five_and_six(self):
        self.assertEqual([faces_or_bar(net)[0] for net in BARRED], ["bar"] * 5)
        self.assertEqual([faces_or_bar(net)[1][0] for net in BARRED[:2]], ["five", "six"])
        self.assertIs(is_faces_or_bar(whole_net(5), ("bar", ("five", (), tuple(range(10))))), True)
        self.assertIs(is_faces_or_bar(SIXES, ("bar", ("six", (), tuple(range(9))))), True)

    def test_judged(self):
        self.check_takes(is_faces_or_bar, (WHEEL,), ("faces", SIDES))
        self.check_takes(is_faces_or_bar, (SIXES,), ("bar", ("six", (), tuple(range(9)))))
        for net in (WHEEL, SIXES, LOOP, LINE):
            self.check_never(is_faces_or_bar, (net,))
            for value in STRANGE:
                right = net is LINE and repr(value) == "()" or net is LOOP and repr(value) == "((0,),)"
                self.assertIs(is_faces_or_bar(net, ("faces", value)), right)
                self.assertIs(is_faces_or_bar(net, ("bar", value)), False)
        for value in (SIDES, ("bar", SIDES), ("faces", SIDES, ()), ("faces", SIDES[:2])):
            self.assertIs(is_faces_or_bar(WHEEL, value), False)

    def test_great(self):
        for net in (LONG, LOOPS, THICK, EIGHT, CUBE, whole_net(7), Net(25, ((0, 24),) * 24)):
            self.assertIs(is_faces_or_bar(net, faces_or_bar(net)), True)
        self.assertEqual([faces_or_bar(net)[0] for net in (EIGHT, whole_net(7))], ["faces", "bar"])

    def test_wrong(self):
        nets = (InvalidNet, NOT_NETS)
        for function in (faces_or_bar, opposite_net):
            self.check_wrong(function, (WHEEL,), [nets])
        for judge, right in ((are_faces, SIDES), (is_faces_or_bar, ("faces", SIDES)), (is_opposite, WHEEL),
                             (is_faces_or_bar, faces_or_bar(SIXES))):
            self.check_judge_wrong(judge, (WHEEL,), right, [nets])


class Short(Case):
    """[14.7]"""

    def test_short_lot(self):
        met = 0
        for net in NETS + [CUBE, EIGHT, Net(2, ((0, 1),) * 3), Net(3, ((0, 1),) * 3 + ((1, 2),) * 3)]:
            faces = faces_of(net)
            thin = [knot for knot in range(net.knots) if len(star(net, knot)) < 3]
            for function, more in ((short_lot, ()), (is_short_lot, (0,))):
                if len(pieces_of(net)) > 1:
                    self.check_error(Refused, {"reason": ("pieces",)}, function, net, faces, *more)
                elif thin:
                    self.check_error(Refused, {"reason": ("star", thin[0])}, function, net, faces, *more)
            if len(pieces_of(net)) == 1 and not thin:
                lots = faces + (add(*faces),)
                self.assertLess(len(lots[short_lot(net, faces)]), 6)
                for value in range(-1, len(lots) + 1):
                    right = 0 <= value < len(lots) and len(lots[value]) < 6
                    self.assertIs(is_short_lot(net, faces, value), right)
                met += 1
        self.assertGreater(met, 4)

    def test_five_and_six_lines(self):
        for many in (5, 6):
            around = tuple(tuple(sorted((k, (k + 1) % many))) for k in range(many))
            net = Net(2 * many, around + tuple((k, k + many) for k in range(many))
                      + tuple((a + many, b + many) for a, b in around))
            faces = faces_of(net)
            lots = faces + (outer(net, faces),)
            self.assertEqual(sorted(len(lot) for lot in lots), [4] * many + [many] * 2)
            for k, lot in enumerate(lots):
                self.assertIs(is_short_lot(net, faces, k), len(lot) < 6)

    def test_outer_lot_alone_is_short(self):
        # Faces can be put so that the outer lot is the only short one: sums of many lines.
        faces = faces_of(EIGHT)
        lots = faces + (outer(EIGHT, faces),)
        self.assertEqual(sorted(len(lot) for lot in lots), [4] * 8 + [8] * 2)
        for last in range(len(lots)):
            others = lots[:last] + lots[last + 1:]
            self.assertIs(are_faces(EIGHT, others), True)
            self.assertIs(is_short_lot(EIGHT, others, len(others)), len(lots[last]) < 6)
            self.assertIs(is_short_lot(EIGHT, others, short_lot(EIGHT, others)), True)

    def test_judge_takes_nothing_else(self):
        self.check_takes(is_short_lot, (WHEEL, SIDES), 3)
        self.check_takes(is_short_lot, (WHEEL, SIDES), 1)
        for value in STRANGE:
            right = not isinstance(value, bool) and isinstance(value, int) and 0 <= value <= 3
            self.assertIs(is_short_lot(WHEEL, SIDES, value), right)
        for value in (True, False, "0", (0,), 4, -1, 1.0):
            self.assertIs(is_short_lot(WHEEL, SIDES, value), False)

    def test_pieces_come_first(self):
        net = net_beside(WHEEL, LINE)
        faces = SIDES
        for function, more in ((short_lot, ()), (is_short_lot, (None,))):
            self.check_error(Refused, {"reason": ("pieces",)}, function, net, faces, *more)
            self.check_error(Refused, {"reason": ("pieces",)}, function, Net(5, WHEEL.lines), SIDES, *more)
            self.check_error(Refused, {"reason": ("star", 0)}, function, LINE, (), *more)
            self.check_error(Refused, {"reason": ("star", 2)}, function, Net(3, ((0, 1),) * 3 + ((1, 2),)),
                             ((0, 1), (1, 2)), *more)


class Wrong(Case):
    def test_wrong(self):
        nets = (InvalidNet, NOT_NETS)
        faces = (InvalidOperation, [None, SIDES[:2], list(SIDES), SIDES + SIDES[:1], (), True, "faces", {}, 3, WHEEL,
                                    (list(SIDES[0]),) + SIDES[1:], ((True, 3),) + SIDES[1:], ((0, 1, 24),) + SIDES[1:]])
        for function in (outer, net_by_faces, short_lot):
            self.check_wrong(function, (WHEEL, SIDES), [nets, faces])
        self.check_judge_wrong(is_short_lot, (WHEEL, SIDES), 1, [nets, faces])
        # Refused is behind all others.
        apart = Net(5, WHEEL.lines)
        for function, more in ((short_lot, ()), (is_short_lot, (None,))):
            self.check_wrong(function, (apart, SIDES) + more, [nets, faces])
        other = net_by_faces(WHEEL, SIDES)
        self.check_wrong(faces_by, (WHEEL, other), [nets, nets])
        for value in (WHEEL, whole_net(5), Net(4, other.lines[::-1]), LOOP, Net(4, other.lines[:5])):
            self.check_error(InvalidOperation, {}, faces_by, WHEEL, value)
            self.check_error(InvalidNet, {}, faces_by, None, value)
        self.check_error(InvalidOperation, {}, faces_by, whole_net(5), whole_net(5))

    def test_nets_without_faces(self):
        for value in ((), SIDES, tuple((k,) for k in range(6)), table_of(whole_net(5)).form):
            self.check_error(InvalidOperation, {}, outer, whole_net(5), value)


class NotTrue(Case):
    """[14.8]"""

    def test_unlike_numbers_of_knots(self):
        other = opposite_net(WHEEL)
        self.assertIs(is_opposite(WHEEL, Net(other.knots + 3, other.lines)), True)

    def test_face_that_is_no_ring(self):
        # A ring within a ring, apart: the face between them has both.
        net = Net(4, ((0, 1), (0, 1), (2, 3), (2, 3)))
        faces = ((0, 1), (0, 1, 2, 3))
        self.assertIs(are_faces(net, faces), True)
        self.assertIs(is_ring(table_of(net), faces[1]), False)

    def test_opposite_of_the_opposite(self):
        net = Net(3, ((0, 1), (1, 2)))
        again = net_by_faces(net_by_faces(net, ()), ((0,), (1,)))
        self.assertEqual(table_of(again), table_of(net))
        self.assertIs(again == net, False)
