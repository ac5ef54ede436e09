"""Stage 11: a net, or a stop."""

import itertools
import random

from ringtables.errors import InvalidOperation, InvalidTable, Refused
from ringtables.main.found import behind_steps, is_net_or_stop, net_of, net_or_stop, nets_glued
from ringtables.net.nets import Net, is_net_of, net_tied, pieces_of, table_of
from ringtables.table.bridges import bridges, component
from ringtables.table.lesser import lengthened, lesser, widened
from ringtables.table.parts import beside, does_hang, part_table, parts, tied
from ringtables.table.rings import cuts, is_cut
from ringtables.table.sides import is_even, side_count, sides_or_row
from ringtables.table.stars import told_cuts
from ringtables.table.tables import Table, opposite, relined
from tests.support import ALL1, ALL24, BOTH, CROSS, EVEN24, FANO, MANY, NONE1, NONE24, NOT_TABLES, ONE24, ROUNDS, SPLIT
from tests.support import SPOKES, STARS, STRANGE, TWOS, WHEEL, Case, bridges_by, clashes_by, cuts_by, every_table
from tests.support import hanging_net, is_net_by, is_row_by, lesser_sums, not_numbers, parts_by, picked_nets
from tests.support import picked_tables, small_tables, table_by, table_sums, unlike_net, whole_net

CHANCE = random.Random(31)
FOUR = (0, 2, 4, 7)
FOURS = opposite(FANO)
SIX = opposite(table_of(Net(6, tuple((a, b) for a in range(3) for b in range(3, 6)))))
NO_NETS = [FANO, FOURS, STARS, SIX]
EIGHTS = ([widened(FANO, lot) for lot in ((), (0,), (0, 1), (0, 1, 3), (0, 1, 2))]
          + [lengthened(FANO, pick) for pick in ((), (0,), (1, 3), (0, 1, 2, 3))]
          + [widened(FOURS, lot) for lot in ((), (2,), (0, 1))] + [lengthened(FOURS, (0, 2))])
TABLES = (small_tables(3) + picked_tables(32, 60, 4, 7) + picked_tables(33, 40, 8, 8) + EIGHTS
          + [FANO, FOURS, BOTH, SPLIT])
APART = beside(ROUNDS, beside(ALL1, beside(FANO, NONE1)))
NOT_CUTS = [(), (0,), (0, 1), (0, 1, 3), (0, 1, 2, 3, 4, 5)]


def wholes():
    """Nets of tables that hang together."""
    return [hanging_net(CHANCE, 7, 12) for _ in range(40)] + [WHEEL, whole_net(5), net_tied(WHEEL, 0, WHEEL, 3, 1)]


def followed_by(table, steps):
    """The table behind the steps and its lines, or None if one does not fit."""
    lines = tuple(range(table.many))
    for step in steps:
        if step[0] == "part":
            lots = parts_by(table)
            if len(lots) == 1 or not 0 <= step[1] < len(lots):
                return None
            stay = lots[step[1]]
        else:
            if len(parts_by(table)) > 1 or step[1] not in cuts_by(table):
                return None
            lots = bridges_by(table, step[1])
            if not 0 <= step[2] < len(lots):
                return None
            stay = tuple(sorted(step[1] + lots[step[2]]))
        gone = tuple(line for line in range(table.many) if line not in stay)
        table = table_by(len(stay), lesser_sums(table, (), gone))
        lines = tuple(lines[k] for k in stay)
    return table, lines


def is_stop_by(table, steps, end):
    """Whether steps and end are a stop, by the words alone."""
    told = followed_by(table, steps)
    if told is None or len(parts_by(told[0])) > 1:
        return False
    table = told[0]
    if end[0] == "clash":
        if end[1] not in cuts_by(table):
            return False
        return is_row_by(len(bridges_by(table, end[1])), clashes_by(table, end[1]), end[2])
    stars = [cut for cut in cuts_by(table) if len(bridges_by(table, cut)) < 2]
    told = end[2]
    return len(told) == 3 and told[0] < told[1] < told[2] and all(cut in stars and end[1] in cut for cut in told)


class EitherOr(Case):
    """[11.5], [0.16]"""

    def test_either_or(self):
        found = {"net": 0, "clash": 0, "three": 0}
        for table in TABLES:
            value = net_or_stop(table)
            self.assertIs(is_net_or_stop(table, value), True)
            self.assertEqual(value[0] == "net", is_net_by(table))
            if value[0] == "net":
                self.assertEqual(table_of(value[1]), table)
                self.assertEqual(table_of(net_of(table)), table)
                found["net"] += 1
            else:
                self.assertTrue(is_stop_by(table, value[1], value[2]))
                self.assertIsNone(net_of(table))
                found[value[2][0]] += 1
        self.assertGreater(min(found["net"], found["three"]), 5)

    def test_no_nets(self):
        for table in NO_NETS + [beside(table, NONE1) for table in NO_NETS] + [beside(ALL1, STARS), beside(ROUNDS, SIX)]:
            value = net_or_stop(table)
            self.assertEqual(value[0], "stop")
            self.assertTrue(is_stop_by(table, value[1], value[2]))
            self.assertIs(is_net_or_stop(table, value), True)
            self.assertIsNone(net_of(table))

    def test_every_table_of_few_lines(self):
        # Tables of six lines or fewer are all nets'.
        for table in every_table(4) + every_table(5):
            self.assertIs(is_net_of(table, net_of(table)), True)

    def test_told_tables_by_all_names(self):
        for table in NO_NETS:
            for _ in range(6):
                order = tuple(CHANCE.sample(range(table.many), table.many))
                again = relined(table, order)
                value = net_or_stop(again)
                self.assertEqual(value[0], "stop")
                self.assertTrue(is_stop_by(again, value[1], value[2]))

    def test_lesser_ones_of_told_tables(self):
        for table in NO_NETS:
            for word, line in itertools.product(("out", "join"), range(table.many)):
                small = lesser(table, (word, line))
                self.assertIs(is_net_of(small, net_of(small)), True)

    def test_nets(self):
        for net in picked_nets(34, 120, 8, 14) + wholes():
            table = table_of(net)
            self.assertIs(is_net_of(table, net_of(table)), True)
            word, told = net_or_stop(table)
            self.assertEqual(word, "net")
            self.assertIs(is_net_or_stop(table, ("net", told)), True)
            self.assertIs(is_net_or_stop(table, ("net", unlike_net(CHANCE, net))), True)

    def test_edges(self):
        for table in (NONE1, ALL1, NONE24, ALL24, EVEN24, ONE24, TWOS, table_of(SPOKES), table_of(whole_net(7))):
            self.assertIs(is_net_of(table, net_of(table)), True)
        # A net in one piece has room for 24 lines none of which is in a ring.
        self.assertLessEqual(net_of(NONE24).knots, 25)

    def test_great(self):
        chance = random.Random(35)
        for knots in (3, 5, 8, 11, 13, 17, 21, 24, 25):
            for _ in range(6):
                lines = tuple(tuple(sorted((chance.randrange(knots), chance.randrange(knots)))) for _ in range(24))
                table = table_of(Net(knots, lines))
                self.assertIs(is_net_of(table, net_of(table)), True)
        for table in picked_tables(36, 60, 16, 24):
            value = net_or_stop(table)
            self.assertIs(is_net_or_stop(table, value), True)
        for table in (opposite(table_of(whole_net(7))), opposite(table_of(whole_net(6)))):
            value = net_or_stop(table)
            self.assertEqual(value[0], "stop")
            self.assertIs(is_net_or_stop(table, value), True)

    def test_wrong(self):
        for function in (net_of, net_or_stop):
            self.check_wrong(function, (FANO,), [(InvalidTable, NOT_TABLES)])
        for right in (("net", WHEEL), ("stop", (), ("three", 5, told_cuts(FANO)))):
            self.check_judge_wrong(is_net_or_stop, (FANO,), right, [(InvalidTable, NOT_TABLES)])


class Components(Case):
    """[11.1]"""

    def test_exactly_if(self):
        met = {True: 0, False: 0}
        for table in [table for table in TABLES + NO_NETS if table.many > 1 and does_hang(table)]:
            is_net = is_net_by(table) if table.many < 9 else False
            for cut in cuts_by(table):
                many = len(bridges(table, cut))
                if many > 1:
                    small = [component(table, cut, k)[0] for k in range(many)]
                    are_nets = all(is_net_by(one) if one.many < 9 else net_of(one) is not None for one in small)
                    self.assertEqual(is_net, is_even(table, cut) and are_nets)
                    met[is_net] += 1
        self.assertGreater(min(met.values()), 20)


class Glued(Case):
    """[11.2], [11.3]"""

    def glue(self, table, cut):
        nets = tuple(unlike_net(CHANCE, net_of(component(table, cut, k)[0])) for k in range(len(bridges(table, cut))))
        return nets_glued(table, cut, nets)

    def test_glued(self):
        sides = {}
        for net in wholes():
            table = table_of(net)
            for cut in cuts(table):
                glued = self.glue(table, cut)
                self.assertEqual(table_of(glued), table)
                self.assertEqual(len(pieces_of(glued)), 1)
                bits = sides_or_row(table, cut)[1]
                told = tuple(sorted((bits.count(0), bits.count(1))))
                sides[told] = sides.get(told, 0) + 1
        # A side has no bridge, one, or several.
        for told in ((0, 0), (0, 1), (1, 1), (1, 2), (2, 2)):
            self.assertGreater(sides.get(told, 0), 2, told)
        self.assertTrue(any(max(told) > 2 for told in sides))

    def test_many_bridges_on_one_side(self):
        # Ways of several lines between two knots have cuts with many bridges, all of which agree.
        for ways in ((2, 3, 4), (1, 2, 2, 3), (3, 3, 3), (2, 2, 2, 2, 2)):
            pairs, many = [], 2
            for way in ways:
                knots = [0] + list(range(many, many + way - 1)) + [1]
                pairs += [tuple(sorted(pair)) for pair in zip(knots, knots[1:])]
                many += way - 1
            table = table_of(Net(many, tuple(pairs)))
            for cut in cuts(table):
                self.assertEqual(table_of(self.glue(table, cut)), table)

    def test_lines_side_by_side(self):
        net = Net(4, ((0, 1), (0, 1), (1, 2), (1, 2), (2, 3), (2, 3), (0, 3), (0, 3), (0, 2)))
        table = table_of(net)
        for cut in cuts(table):
            for _ in range(4):
                self.assertEqual(table_of(self.glue(table, cut)), table)

    def test_great(self):
        for table, cut in ((ONE24, (3, 17)), (EVEN24, MANY), (table_of(SPOKES), tuple(range(12)))):
            self.assertEqual(table_of(self.glue(table, cut)), table)
        spokes = table_of(SPOKES)
        cut = (0, 1, 13, 23)
        self.assertIs(is_cut(spokes, cut), True)
        self.assertEqual(table_of(self.glue(spokes, cut)), spokes)
        self.assertEqual(table_of(self.glue(table_of(whole_net(7)), (0, 1, 2, 3, 4, 5))), table_of(whole_net(7)))
        chance = random.Random(37)
        for _ in range(12):
            net = hanging_net(chance, 16, 24)
            table = table_of(net)
            if table.many - table.size < 13:
                for cut in [cut for cut in cuts(table)[:400] if len(bridges(table, cut)) > 2][:8]:
                    self.assertEqual(table_of(self.glue(table, cut)), table)

    def test_no_bridges(self):
        self.assertEqual(nets_glued(Table(3, ((0, 1), (1, 2))), (0, 1, 2), ()), Net(2, ((0, 1),) * 3))

    def test_wrong(self):
        halves = tuple(net_of(component(ROUNDS, CROSS, k)[0]) for k in range(2))
        tables = (InvalidTable, NOT_TABLES)
        nets = (InvalidOperation, [None, (), halves[:1], halves[::-1], halves + halves[:1], list(halves), (WHEEL,) * 2,
                                   (halves[0], None), (halves[0], FANO), True, "nets", {}, WHEEL, halves[0], FANO,
                                   (halves[0], Net(3, halves[1].lines[::-1]))])
        self.assertIs(is_net_of(ROUNDS, nets_glued(ROUNDS, CROSS, halves)), True)
        self.check_cut_wrong(nets_glued, (ROUNDS, CROSS, halves), [tables, None, nets], no_cuts=NOT_CUTS)

    def test_refused(self):
        tables = (InvalidTable, NOT_TABLES)
        nets = (InvalidOperation, [None, (WHEEL,), (), [WHEEL], True])
        apart = beside(ROUNDS, ALL1)
        told = tuple(net_of(component(apart, CROSS, k)[0]) for k in range(3))
        self.check_error(Refused, {"reason": ("parts",)}, nets_glued, apart, CROSS, told)
        self.check_cut_wrong(nets_glued, (apart, CROSS, told), [tables, None, nets], no_cuts=NOT_CUTS + [(6,)])
        self.check_error(Refused, {"reason": ("parts",)}, nets_glued, NONE1, (0,), ())
        self.check_error(Refused, {"reason": ("parts",)}, nets_glued, Table(2, ()), (1,), (Net(3, ((0, 1), (1, 2))),))
        told = tuple(net_of(component(STARS, FOUR, k)[0]) for k in range(3))
        self.check_error(Refused, {"reason": ("clash",)}, nets_glued, STARS, FOUR, told)
        self.check_cut_wrong(nets_glued, (STARS, FOUR, told), [tables, None, nets], no_cuts=NOT_CUTS)
        # In several parts, and with a cut that is not even: parts come first.
        apart = beside(STARS, ALL1)
        told = tuple(net_of(component(apart, FOUR, k)[0]) for k in range(4))
        self.check_error(Refused, {"reason": ("parts",)}, nets_glued, apart, FOUR, told)


class Steps(Case):
    """[11.4]: behind_steps"""

    def values(self, table, most):
        """Tuples of steps, right and wrong ones."""
        found = [()]
        if most:
            steps = [("part", p) for p in range(-1, len(parts_by(table)) + 1)]
            lots = cuts_by(table)[:4] + [(0,), ()]
            steps += [("bridge", cut, b) for cut in lots for b in range(-1, 4)]
            for step in steps:
                told = followed_by(table, (step,))
                found.append((step,))
                if told is not None:
                    found += [(step,) + more for more in self.values(told[0], most - 1) if more]
                else:
                    found += [(step, ("part", 0)), (step, step)]
        return found

    def test_behind_steps(self):
        right = 0
        for table in [ROUNDS, SPLIT, beside(BOTH, Table(2, ((0, 1),))), Table(3, ((0, 1),)), NONE1, ALL1, FANO]:
            for steps in self.values(table, 2):
                told = followed_by(table, steps)
                if told is None:
                    self.check_error(InvalidOperation, {}, behind_steps, table, steps)
                    continue
                self.assertEqual(behind_steps(table, steps), told)
                self.assertEqual(behind_steps(table, steps)[0].lots, told[0].form)
                right += 1
        self.assertGreater(right, 50)

    def test_rows_of_steps(self):
        steps = (("part", 0), ("bridge", CROSS, 1), ("bridge", (0, 1, 2, 3), 0))
        table, lines = behind_steps(APART, steps)
        self.assertEqual((table, lines), (component(ROUNDS, CROSS, 1)[0], (1, 2, 3, 4, 5)))
        # A step to the only bridge stays where it is, as often as one likes.
        told = (("bridge", (2, 4, 5, 6), 0),)
        self.assertEqual(behind_steps(FANO, told * 60), (FANO, tuple(range(7))))
        self.assertEqual(behind_steps(APART, (("part", 2),) + told * 3), (FANO, tuple(range(7, 14))))
        self.assertEqual(behind_steps(APART, (("part", 3),)), (NONE1, (14,)))
        self.assertEqual(behind_steps(APART, ()), (APART, tuple(range(15))))
        self.assertEqual(behind_steps(ONE24, (("bridge", (3, 9), 21), ("bridge", (0, 1), 0))),
                         (Table(3, ((0, 1, 2),)), (3, 9, 23)))

    def test_form_is_told(self):
        self.assertEqual(behind_steps(FANO, ())[0].lots, FANO.form)

    def test_wrong(self):
        steps = [None, True, 0, "part", [], {}, ("part", 0), [("part", 0)], (("part", 4),), (("part", True),),
                 (("part",),), (("bridge", CROSS, 0),), (("part", 0), ("part", 0)), (None,), ((),),
                 (("part", 0), ("bridge", CROSS, 2)),
                 (("part", 0), ("bridge", (0, 1), 0)), (("part", 0), ("bridge", list(CROSS), 0)), (("Part", 0),),
                 (("part", 0), ("bridge", CROSS, False)), (["part", 0],), (("part", 0, 0),), (("bridge", CROSS),),
                 (("out", 0),), (("part", 10 ** 60),), (FANO,), (("part", FANO),), (("part", 0), ("bridge", FANO, 0)),
                 (("part", 0), ("bridge", CROSS, 1), ("bridge", CROSS, 1))]
        self.check_wrong(behind_steps, (APART, (("part", 0),)), [(InvalidTable, NOT_TABLES), (InvalidOperation, steps)])
        for step in (("part", 0), ("part", 1), ("bridge", CROSS, 2), ("bridge", (0, 1), 0)):
            self.check_error(InvalidOperation, {}, behind_steps, ROUNDS, (step,))
        for number in not_numbers(0, 1):
            self.check_error(InvalidOperation, {}, behind_steps, ROUNDS, (("bridge", CROSS, number),))
        self.check_error(InvalidOperation, {}, behind_steps, NONE1, (("bridge", (0,), 0),))


class Judged(Case):
    """[11.4]: is_net_or_stop"""

    def test_stops(self):
        cuts_told = told_cuts(FANO)
        ends = [("three", line, rows) for line in (0, 5) for rows in ((cuts_told), cuts_told[::-1], cuts_told[:2])]
        ends += [("clash", cuts_told[0], row) for row in ((), (0,), (0, 0, 0), (0, 1, 2))]
        rows = [(), (("part", 0),), (("bridge", cuts_told[1], 0),), (("bridge", cuts_told[1], 1),),
                (("bridge", cuts_told[0], 0), ("bridge", cuts_told[2], 0))]
        values = [("stop", steps, end) for steps in rows for end in ends]
        taken = self.check_judged(is_net_or_stop, (FANO,), values, lambda value: is_stop_by(FANO, value[1], value[2]))
        self.assertEqual(taken, 3)

    def test_clashes(self):
        ends = [("clash", cut, row) for cut in cuts_by(STARS)[:6] + [FOUR, (0, 1)]
                for k in range(4) for row in itertools.product(range(3), repeat=k)]
        values = [("stop", (), end) for end in ends]
        taken = self.check_judged(is_net_or_stop, (STARS,), values, lambda value: is_stop_by(STARS, (), value[2]))
        self.assertGreaterEqual(taken, 6)
        apart = beside(NONE1, STARS)
        values = [("stop", steps, end) for end in ends for steps in ((), (("part", 1),), (("part", 0),))]
        again = self.check_judged(is_net_or_stop, (apart,), values,
                                  lambda value: is_stop_by(apart, value[1], value[2]))
        self.assertEqual(again, taken)

    def test_the_table_behind_hangs_together(self):
        table = beside(STARS, NONE1)
        end = ("clash", FOUR, (0, 1, 2))
        self.assertEqual(sides_or_row(table, FOUR)[0], "row")
        self.assertIs(is_net_or_stop(table, ("stop", (), end)), False)
        self.assertIs(is_net_or_stop(table, ("stop", (("part", 0),), end)), True)

    def test_steps_that_do_not_fit(self):
        end = ("three", 5, told_cuts(FANO))
        table = beside(ROUNDS, FANO)
        self.assertIs(is_net_or_stop(table, ("stop", (("part", 1),), end)), True)
        for steps in ((), (("part", 0),), (("part", 2),), (("part", 1), ("part", 0)), (("part", True),), [("part", 1)],
                      (["part", 1],), (("part", 1), ("bridge", CROSS, 0)), (("bridge", (8, 10, 11, 12), 0),)):
            self.assertIs(is_net_or_stop(table, ("stop", steps, end)), False)
        steps = (("part", 1), ("bridge", (2, 4, 5, 6), 0))
        self.assertIs(is_net_or_stop(table, ("stop", steps, end)), True)
        self.assertIs(is_net_or_stop(table, ("stop", steps + steps[1:] * 40, end)), True)

    def test_nets_have_no_stop(self):
        for table in (ROUNDS, SPLIT, BOTH):
            cuts_told = cuts_by(table)
            values = [("clash", cut, (0, 1, 2)) for cut in cuts_told]
            values += [("three", line, rows) for rows in itertools.combinations(cuts_told, 3) for line in range(5)]
            for end in values:
                self.assertIs(is_net_or_stop(table, ("stop", (), end)), False)

    def test_judge_takes_nothing_else(self):
        self.check_takes(is_net_or_stop, (FANO,), ("stop", (), ("three", 5, told_cuts(FANO))))
        self.check_takes(is_net_or_stop, (STARS,), ("stop", (), ("clash", FOUR, (2, 0, 1))))
        self.check_takes(is_net_or_stop, (beside(ALL1, FANO),),
                         ("stop", (("part", 1), ("bridge", (2, 4, 5, 6), 0)), ("three", 5, told_cuts(FANO))))
        self.check_takes(is_net_or_stop, (ROUNDS,), ("net", WHEEL))
        for table in (FANO, ROUNDS, STARS, NONE1, ALL24, APART):
            self.check_never(is_net_or_stop, (table,))
            for value in STRANGE:
                self.assertIs(is_net_or_stop(table, ("stop", value, ("three", 5, told_cuts(FANO)))),
                              table is FANO and value == () and isinstance(value, tuple))
                self.assertIs(is_net_or_stop(table, ("stop", (), value)), False)
                self.assertIs(is_net_or_stop(table, ("net", value)), table is ROUNDS and value is WHEEL)
                self.assertIs(is_net_or_stop(table, ("stop", (), ("clash", value, (0, 1, 2)))), False)
                self.assertIs(is_net_or_stop(table, ("stop", (), ("clash", FOUR, value))), False)
                self.assertIs(is_net_or_stop(table, ("stop", (), ("three", 5, value))), False)


class TiedNets(Case):
    """[5.2], [5.4]: parts and tied tables"""

    def test_beside(self):
        for one, other in itertools.product(picked_tables(38, 6, 4, 7) + [FANO, STARS], [ROUNDS, FOURS, NONE1]):
            is_net = net_of(one) is not None and net_of(other) is not None
            self.assertEqual(net_of(beside(one, other)) is not None, is_net)

    def test_parts(self):
        for table in TABLES[::3] + [APART]:
            nets = [net_of(part_table(table, k)[0]) for k in range(len(parts(table)))]
            self.assertEqual(net_of(table) is not None, None not in nets)

    def test_tied(self):
        chosen = [table for table in picked_tables(39, 20, 3, 7) if table.many > 2] + [ROUNDS, BOTH, FANO, FOURS, SPLIT]
        met = {True: 0, False: 0}
        for one, other in itertools.product(chosen, chosen[-6:]):
            lots, more = parts_by(one), parts_by(other)
            for line, further in ((0, 0), (one.many - 1, 1)):
                if (line,) not in lots and (further,) not in more:
                    is_net = net_of(one) is not None and net_of(other) is not None
                    table = tied(one, line, other, further)
                    value = net_or_stop(table)
                    self.assertEqual(value[0] == "net", is_net)
                    self.assertIs(is_net_or_stop(table, value), True)
                    met[is_net] += 1
        self.assertGreater(min(met.values()), 20)


class NotTrue(Case):
    """[11.6]"""

    def test_no_stop_without_steps(self):
        table = beside(FANO, NONE1)
        value = net_or_stop(table)
        self.assertEqual((value[0], value[1]), ("stop", (("part", 0),)))
        self.assertIs(is_net_or_stop(table, ("stop", (),) + value[2:]), False)
        # This one hangs together, and no cut of it is odd, nor is a line in three star cuts.
        table = tied(FANO, 0, table_of(Net(4, ((0, 1), (1, 2), (2, 3), (0, 3)))), 0)
        self.assertIs(does_hang(table), True)
        stars = [cut for cut in cuts_by(table) if len(bridges_by(table, cut)) < 2]
        self.assertTrue(all(side_count(table, cut) for cut in cuts_by(table)))
        self.assertTrue(all(sum(line in cut for cut in stars) < 3 for line in range(table.many)))
        self.assertIs(is_net_or_stop(table, net_or_stop(table)), True)
        self.assertEqual(net_or_stop(table)[0], "stop")

    def test_components_alone(self):
        self.assertEqual(len(bridges(STARS, FOUR)), 3)
        for k in range(3):
            self.assertIsNotNone(net_of(component(STARS, FOUR, k)[0]))
        self.assertIsNone(net_of(STARS))
        self.assertEqual(len(table_sums(STARS)), 16)
