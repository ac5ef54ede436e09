"""Stage 19: nets with poles."""

import itertools
import random
import time
from unittest import mock

import ringtables.wish.poles as module
from ringtables.errors import InvalidList, InvalidLot, InvalidNet, InvalidOperation, Refused, TooMany
from ringtables.main.bars import net_or_bar, told_table
from ringtables.main.found import net_of, net_or_stop
from ringtables.main.kinds import kind
from ringtables.net.nets import Net, is_net_of, net_beside, table_of
from ringtables.table.parts import does_hang
from ringtables.table.tables import opposite
from ringtables.wish.lists import cuts_of, is_list, list_of_table, odd_or_pair, table_of_list
from ringtables.wish.poles import is_conducting, is_net_or_paper, is_way, is_way_or_shore, net_or_paper, rims
from ringtables.wish.poles import way_or_shore, ways, wishes_of, with_pole_line
from tests.support import FANO, NOT_NETS, ROUNDS, STRANGE, WHEEL, Case, cuts_by, hanging_net, not_lots, picked_nets
from tests.support import rings_of, subsets, table_sums, unlike_net
from tests.test_lists import BRIDGE, EACH12, FOURS12, LISTS, ODD, ONE, PAIRS12, TWO, WIDE, contacts, cuts_by_trial
from tests.test_lists import is_odd_by, least_ones, not_lists
from tests.test_signs import TEN

CHANCE = random.Random(101)
DELTA = Net(4, ((0, 2), (1, 2), (2, 3), (0, 3), (1, 3)))
APART = Net(4, ((0, 2), (1, 3)))
NETS = ([net for net in picked_nets(102, 60, 6, 9) if net.knots > 1] + [hanging_net(CHANCE, 6, 9) for _ in range(20)]
        + [DELTA, APART, WHEEL, Net(2, ((0, 1),)), Net(2, ((0, 0), (1, 1))), Net(25, ((0, 1), (3, 24))),
           Net(5, ((0, 0), (0, 2), (0, 2), (1, 2), (3, 4), (1, 1))), Net(3, ((0, 2), (2, 2), (1, 2), (0, 1)))])
TRIPLES = Net(5, ((0, 2),) * 3 + ((2, 3),) * 3 + ((3, 4),) * 3 + ((1, 4),) * 3)


def walks(net, knot, met, lines):
    """All ways from a knot to knot 1, as tuples of lines in their sequence."""
    if knot == 1:
        yield lines
        return
    for line, pair in enumerate(net.lines):
        if knot in pair and line not in lines:
            goal = pair[1] if pair[0] == knot else pair[0]
            if goal not in met:
                yield from walks(net, goal, met | {goal}, lines + (line,))


def ways_by(net):
    return sorted({tuple(sorted(walk)) for walk in walks(net, 0, {0}, ())})


def rim_of(net, shore):
    return tuple(line for line, (a, b) in enumerate(net.lines) if (a in shore) != (b in shore))


def shores_by(net):
    """All shores, knots without lines being left out."""
    knots = sorted({knot for pair in net.lines for knot in pair} - {0, 1})
    return [tuple(sorted((0,) + lot)) for lot in subsets(knots)]


def rims_by(net):
    return least_ones({rim_of(net, shore) for shore in shores_by(net)})


def does_by(net, wishes):
    return net.knots > 1 and len(net.lines) == len(contacts(wishes)) and tuple(ways_by(net)) == wishes


def repoled(net, low, high):
    """The net with two of its knots as poles."""
    names = {low: 0, high: 1}
    for knot in range(net.knots):
        names.setdefault(knot, len(names))
    return Net(net.knots, tuple(tuple(sorted((names[a], names[b]))) for a, b in net.lines))


class Ways(Case):
    """[19.1]"""

    def test_ways_and_rims(self):
        for net in NETS:
            told = ways(net)
            self.assertEqual(told, tuple(ways_by(net)))
            self.assertEqual(rims(net), rims_by(net))
            for way, shore in itertools.product(told, shores_by(net)):
                self.assertEqual(len(set(way) & set(rim_of(net, shore))) % 2, 1)

    def test_no_way(self):
        for net in (APART, Net(2, ((0, 0), (1, 1))), Net(3, ((0, 2),)), Net(25, ((3, 24),))):
            self.assertEqual([ways(net), rims(net)], [(), ((),)])

    def test_edges(self):
        self.assertEqual([ways(Net(2, ((0, 1),) * 12)), rims(Net(2, ((0, 1),) * 12))],
                         [tuple((k,) for k in range(12)), (tuple(range(12)),)])
        row = Net(13, ((0, 2),) + tuple((k, k + 1) for k in range(2, 12)) + ((1, 12),))
        self.assertEqual([ways(row), rims(row)], [(tuple(range(12)),), tuple((k,) for k in range(12))])
        self.assertEqual(ways(Net(3, ((0, 1), (0, 2), (1, 2), (2, 2)))), ((0,), (1, 2)))
        self.assertEqual([len(ways(TRIPLES)), rims(TRIPLES)], [81, ((0, 1, 2), (3, 4, 5), (6, 7, 8), (9, 10, 11))])

    def test_is_way(self):
        for net in NETS:
            told = ways_by(net)
            lots = subsets(range(len(net.lines))) + [(len(net.lines),)]
            self.assertEqual(self.check_judged(is_way, (net,), lots, lambda value: value in told), len(told))
        self.check_takes(is_way, (DELTA,), (1, 2, 3))
        for net in (DELTA, APART, TRIPLES):
            self.check_never(is_way, (net,))

    def test_great(self):
        nets = [Net(knots, tuple(tuple(sorted(CHANCE.sample(range(knots), 2))) for _ in range(12)))
                for knots in (2, 3, 4, 5, 6, 7, 25) for _ in range(5)] + [TRIPLES]
        before = time.perf_counter()
        for net in nets:
            self.assertEqual(ways(net), tuple(ways_by(net)))
            for rim in rims(net):
                self.assertTrue(all(set(rim) & set(way) for way in ways(net)))
        self.assertLess(time.perf_counter() - before, 5)


class ThroughThePoles(Case):
    """[19.2]"""

    def test_pole_line(self):
        for net in NETS:
            longer = with_pole_line(net)
            many = len(net.lines)
            self.assertEqual((longer.knots, longer.lines), (net.knots, net.lines + ((0, 1),)))
            table = table_of(longer)
            self.assertEqual(list(ways(net)), sorted(ring[:-1] for ring in rings_of(table_sums(table)) if many in ring))
            self.assertEqual(list(rims(net)), sorted(cut[:-1] for cut in cuts_by(table) if many in cut))

    def test_way_or_shore(self):
        for net in NETS:
            for shut in subsets(range(len(net.lines)))[::3]:
                value = way_or_shore(net, shut)
                self.assertIs(is_way_or_shore(net, shut, value), True)
                told = [way for way in ways_by(net) if set(way) <= set(shut)]
                self.assertIs(is_conducting(net, shut), bool(told))
                self.assertEqual(value[0], "way" if told else "shore")
                if told:
                    self.assertIn(value[1], told)
                else:
                    self.assertTrue(0 in value[1] and 1 not in value[1] and list(value[1]) == sorted(value[1]))
                    self.assertFalse(set(rim_of(net, value[1])) & set(shut))

    def test_judged(self):
        for net in [net for net in NETS if net.knots < 7][::6] + [DELTA, APART]:
            for shut in subsets(range(len(net.lines)))[::7]:
                told = [way for way in ways_by(net) if set(way) <= set(shut)]
                lots = [("way", lot) for lot in subsets(range(len(net.lines)))]
                self.check_judged(is_way_or_shore, (net, shut), lots, lambda value: value[1] in told)
                self.check_judged(is_way_or_shore, (net, shut), [("shore", lot) for lot in subsets(range(net.knots))],
                                  lambda value: 0 in value[1] and 1 not in value[1]
                                  and not set(rim_of(net, value[1])) & set(shut))
        self.check_takes(is_way_or_shore, (DELTA, (1, 2, 3)), ("way", (1, 2, 3)))
        self.check_takes(is_way_or_shore, (DELTA, (0, 2, 3)), ("shore", (0, 2, 3)))
        self.check_takes(is_way_or_shore, (Net(25, ((3, 24),)), (0,)), ("shore", (0, 3, 5, 24)))
        for shut in ((), (0, 2, 3), (0, 1, 2, 3, 4)):
            self.check_never(is_way_or_shore, (DELTA, shut))
            for value in STRANGE:
                for word in ("way", "shore"):
                    right = (word == "way" and repr(value) == "(0, 1)" and len(shut) == 5
                             or word == "shore" and repr(value) == "(0,)" and not shut)
                    self.assertIs(is_way_or_shore(DELTA, shut, (word, value)), right)
        self.assertIs(is_way_or_shore(DELTA, (), ("shore", (0, 4))), False)


class Lists(Case):
    """[19.3], [19.6]"""

    def test_wishes(self):
        taken = 0
        for net in NETS:
            told = ways_by(net)
            off = [line for line in range(len(net.lines)) if not any(line in way for way in told)]
            if not told:
                self.check_error(Refused, {"reason": ("apart",)}, wishes_of, net)
            elif off:
                self.check_error(Refused, {"reason": ("line", off[0])}, wishes_of, net)
            else:
                wishes = wishes_of(net)
                taken += 1
                self.assertEqual(wishes, tuple(told))
                self.assertIs(is_list(wishes), True)
                self.assertEqual(rims(net), cuts_of(wishes))
                self.assertEqual(odd_or_pair(wishes), ("odd",))
                self.assertEqual(table_of(with_pole_line(net)), table_of_list(wishes))
                if {knot for pair in net.lines for knot in pair} == set(range(net.knots)):
                    self.assertEqual(net.knots, len(net.lines) + 2 - table_of_list(wishes).size)
        self.assertGreater(taken, 10)

    def test_one_table(self):
        for net in NETS[::2]:
            if wishes_are(net):
                for _ in range(3):
                    other = unlike_net(CHANCE, with_pole_line(net))
                    low, high = other.lines[-1]
                    other = repoled(Net(other.knots, other.lines[:-1]), low, high)
                    self.assertEqual(ways(other), ways(net))
                    self.assertEqual(table_of(with_pole_line(other)), table_of(with_pole_line(net)))

    def test_edges(self):
        self.assertEqual(wishes_of(Net(2, ((0, 1),))), ONE)
        self.assertEqual(wishes_of(Net(2, ((0, 1),) * 12)), EACH12)
        self.assertEqual(len(wishes_of(TRIPLES)), 81)
        self.check_error(Refused, {"reason": ("line", 0)}, wishes_of, Net(4, ((2, 3), (0, 1), (2, 2))))
        self.check_error(Refused, {"reason": ("line", 2)}, wishes_of, Net(3, ((0, 1), (0, 1), (2, 2))))
        self.check_error(Refused, {"reason": ("apart",)}, wishes_of, Net(3, ((2, 2),)))

    def test_more_ways(self):
        # No net of twelve lines has more than 81 ways, as far as a search went: a lesser bound shows the error.
        with mock.patch.object(module, "MOST_WISHES", 80):
            self.check_error(TooMany, {"limit": 80}, wishes_of, TRIPLES)
            self.check_error(Refused, {"reason": ("line", 11)}, wishes_of, Net(5, TRIPLES.lines[:-1] + ((2, 2),)))
        with mock.patch.object(module, "MOST_WISHES", 81):
            self.assertEqual(len(wishes_of(TRIPLES)), 81)


def wishes_are(net):
    told = ways_by(net)
    return bool(told) and {line for way in told for line in way} == set(range(len(net.lines)))


class ExactlyIf(Case):
    """[19.4], [0.21]"""

    def test_of_nets(self):
        for net in NETS:
            if wishes_are(net):
                wishes = wishes_of(net)
                word, other = net_or_paper(wishes)
                self.assertEqual(word, "net")
                self.assertTrue(does_by(other, wishes))
                for value in (other, net, Net(net.knots + 2, net.lines)):
                    self.assertIs(is_net_or_paper(wishes, ("net", value)), True)

    def test_lists(self):
        words = []
        for wishes in LISTS + [ONE, EACH12, PAIRS12, FOURS12, WIDE]:
            value = net_or_paper(wishes)
            words.append(value[0])
            self.assertIs(is_net_or_paper(wishes, value), True)
            table = table_of_list(wishes)
            if value[0] == "net":
                self.assertTrue(does_by(value[1], wishes))
            elif value[0] == "even":
                self.assertEqual(odd_or_pair(wishes)[0], "even")
                self.assertTrue(value[1] in wishes and value[2] in cuts_of(wishes))
            else:
                self.assertTrue(is_odd_by(wishes) and net_of(table) is None and does_hang(table))
        self.assertEqual(set(words), {"net", "even", "barred"})

    def test_barred(self):
        for table in (FANO, opposite(FANO), told_table("five"), told_table("six"), TEN):
            for line in (0, table.many - 1):
                wishes = list_of_table(table, line)
                self.assertEqual(net_or_paper(wishes)[0], "barred")
                told = table_of_list(wishes)
                stop, bar = net_or_stop(told)[1:], net_or_bar(told)[1]
                for paper in (stop, bar):
                    self.assertIs(is_net_or_paper(wishes, ("barred", paper)), True)
                    self.check_takes(is_net_or_paper, (wishes,), ("barred", paper))
                self.assertIs(is_net_or_paper(wishes, ("barred", ("stop",) + stop)), False)
                self.assertIs(is_net_or_paper(wishes, ("barred", ("bar", bar))), False)
                self.assertIs(is_net_or_paper(wishes, ("barred",) + bar), False)

    def test_barred_is_for_odd_lists(self):
        # The list is not odd, for all that its table is no net's.
        found = 0
        for table in (FANO, told_table("five"), told_table("six")):
            whole = list_of_table(table, 0)
            for wishes in [whole[:k] + whole[k + 1:] for k in range(len(whole))]:
                if is_list(wishes) and table_of_list(wishes) == table_of_list(whole):
                    stop, bar = net_or_stop(table_of_list(whole))[1:], net_or_bar(table_of_list(whole))[1]
                    for paper in (stop, bar):
                        self.assertIs(is_net_or_paper(whole, ("barred", paper)), True)
                        self.assertIs(is_net_or_paper(wishes, ("barred", paper)), False)
                    self.assertEqual(net_or_paper(wishes)[0], "even")
                    found += 1
        self.assertGreater(found, 10)

    def test_judged(self):
        every = [Net(knots, lines) for knots in (2, 3, 4)
                 for lines in itertools.product(itertools.combinations_with_replacement(range(knots), 2), repeat=3)]
        for wishes in (((0, 1), (2,)), ((0,), (1,), (2,)), ((0, 1, 2),), ((0, 2), (1, 2)), TWO):
            taken = self.check_judged(is_net_or_paper, (wishes,), [("net", net) for net in every],
                                      lambda value: does_by(value[1], wishes))
            self.assertEqual(taken > 0, wishes != TWO)
        for wishes in LISTS[::7] + [TWO]:
            lots = subsets(contacts(wishes))[:40]
            self.check_judged(is_net_or_paper, (wishes,), [("even", a, b) for a in lots for b in lots], lambda value: (
                value[1] in wishes and value[2] in cuts_by_trial(wishes)
                and len(set(value[1]) & set(value[2])) % 2 == 0))
        self.check_takes(is_net_or_paper, (BRIDGE,), ("net", DELTA))
        self.check_takes(is_net_or_paper, (TWO,), ("even", (0, 1), (0, 1)))
        for wishes in (BRIDGE, TWO, list_of_table(FANO, 0)):
            self.check_never(is_net_or_paper, (wishes,))
            for value in STRANGE:
                for word in ("net", "barred"):
                    self.assertIs(is_net_or_paper(wishes, (word, value)), False)
        for net in (Net(1, ((0, 0),) * 5), Net(4, DELTA.lines + ((0, 1),)), Net(4, DELTA.lines[:-1]),
                    Net(2, ((0, 1),) * 13),
                    Net(4, DELTA.lines + ((2, 2),)), Net(1, ((0, 0),) * 24)):
            self.assertIs(is_net_or_paper(BRIDGE, ("net", net)), False)
        for value in (("odd",), ("net",), ("odd", DELTA), ("even", (0, 1), (0, 3)), ("stop", (), ()), ("bar", (), ())):
            self.assertIs(is_net_or_paper(BRIDGE, value), False)


class CutsToo(Case):
    """[19.5]"""

    def test_cuts(self):
        for wishes in [wishes for wishes in LISTS if is_odd_by(wishes)] + [lots for _, _, lots in ODD]:
            table = table_of_list(wishes)
            told = cuts_of(wishes)
            has_net = net_or_paper(told)[0] == "net"
            self.assertEqual(has_net, net_of(opposite(table)) is not None)
            self.assertEqual(table_of_list(told), opposite(table))
            self.assertEqual(has_net and net_or_paper(wishes)[0] == "net", kind(table) == "flat")


class Wrong(Case):
    def test_wrong(self):
        nets = (InvalidNet, NOT_NETS)
        shut = (InvalidLot, not_lots(5))
        for function in (ways, rims, wishes_of, with_pole_line):
            self.check_wrong(function, (DELTA,), [nets])
        for function in (way_or_shore, is_conducting):
            self.check_wrong(function, (DELTA, (0, 1)), [nets, shut])
        self.check_judge_wrong(is_way, (DELTA,), (0, 1), [nets])
        self.check_judge_wrong(is_way_or_shore, (DELTA, (0, 1)), ("way", (0, 1)), [nets, shut])
        lists = (InvalidList, not_lists())
        self.check_wrong(net_or_paper, (BRIDGE,), [lists])
        for right in (("net", DELTA), ("even", (0, 1), (0, 1))):
            self.check_judge_wrong(is_net_or_paper, (BRIDGE,), right, [lists])

    def test_then(self):
        one, many = Net(1, ((0, 0),)), Net(2, ((0, 1),) * 13)
        calls = [(ways, ()), (rims, ()), (is_way, (None,)), (way_or_shore, ((0,),)), (is_conducting, ((),)),
                 (is_way_or_shore, ((), None)), (wishes_of, ()), (with_pole_line, ())]
        for function, more in calls:
            self.check_error(InvalidOperation, {}, function, one, *more)
            self.check_error(InvalidOperation, {}, function, Net(1, ((0, 0),) * 13), *more)
            self.check_error(TooMany, {"limit": 12}, function, many, *more)
            self.check_error(TooMany, {"limit": 12}, function, Net(3, ((0, 2),) * 24), *more)
            function(Net(2, ((0, 1),) * 12), *more)
        for function in (way_or_shore, is_conducting):
            self.check_error(InvalidLot, {}, function, one, (1,))
            self.check_error(InvalidLot, {}, function, many, (13,))
        self.check_error(InvalidLot, {}, is_way_or_shore, many, (13,), None)


class NotTrue(Case):
    """[19.7]"""

    def test_table_of_a_net(self):
        # Its table is a net's, but the list is not odd.
        wishes = tuple(itertools.combinations(range(4), 3))
        self.assertIsNotNone(net_of(table_of_list(wishes)))
        self.assertEqual(net_or_paper(wishes)[0], "even")

    def test_names_of_knots(self):
        one = Net(4, ((0, 2), (2, 3), (1, 3), (0, 1)))
        other = Net(4, ((0, 2), (1, 3), (2, 3), (0, 1)))
        self.assertEqual(wishes_of(one), wishes_of(other))
        self.assertEqual(sorted(map(sorted, one.lines)), sorted(map(sorted, other.lines)))
        self.assertIs(is_net_of(table_of(one), other), True)
        # The lines 0, 1, 2 stand one behind the other in another sequence: the same knot has other lines.
        self.assertNotEqual({frozenset(k for k, pair in enumerate(one.lines) if knot in pair) for knot in range(4)},
                            {frozenset(k for k, pair in enumerate(other.lines) if knot in pair) for knot in range(4)})

    def test_two_lines(self):
        net = Net(5, ((0, 2), (1, 2), (0, 3), (1, 3), (0, 4), (1, 4)))
        self.assertEqual({len(way) for way in ways(net)}, {2})
        self.assertEqual({len(rim) for rim in rims(net)}, {3})

    def test_pieces(self):
        net = net_beside(DELTA, WHEEL)
        self.assertEqual(ways(net), BRIDGE)
        self.assertEqual(table_of(WHEEL), ROUNDS)
        self.check_error(Refused, {"reason": ("line", 5)}, wishes_of, net)
