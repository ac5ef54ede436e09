"""The main statements, and the whole program: tables led through all stages, each value judged by its definition."""

import itertools
import random

from ringtables.bench.bench import Bench, led_net
from ringtables.judge.claims import does_take, opposite_claim, settled
from ringtables.main.bars import net_or_bar, told_table, word_of
from ringtables.main.flat import faces_or_bar, is_faces_or_bar, net_by_faces
from ringtables.main.found import is_net_or_stop, net_of, net_or_stop
from ringtables.main.kinds import KINDS, is_kind_paper, kind, kind_paper
from ringtables.net.nets import Net, star, table_of
from ringtables.sign.counts import net_or_uneven, square_count, tree_count
from ringtables.sign.currents import currents
from ringtables.sign.signs import are_right_signs, is_signs_or_bar, net_signs, sign_count, signs_or_bar
from ringtables.table.bridges import bridges, component
from ringtables.table.lesser import lengthened, lesser, widened
from ringtables.table.parts import beside, does_hang
from ringtables.table.rings import cuts, is_ring, painted
from ringtables.table.sides import is_even
from ringtables.table.stars import is_star_cut
from ringtables.table.tables import Table, is_sum, opposite, relined, sum_by, sums, tested
from ringtables.text.texts import bar_text, list_text, net_text, read_bar, read_list, read_net, read_signs, read_steps
from ringtables.text.texts import read_table, signs_text, steps_text, table_text
from ringtables.wish.lists import cuts_of, is_list, list_of_table, odd_or_pair, table_of_list
from ringtables.wish.poles import is_net_or_paper, net_or_paper, ways
from tests.support import BOTH, FANO, ROUNDS, SPLIT, WHEEL, Case, add, bridges_by, clashes_by, cuts_by, hanging_net
from tests.support import is_row_by, lesser_sums, odd, parts_by, picked_nets, picked_tables, rings_of, sides_by
from tests.support import small_tables, subsets, table_by, table_sums, unlike_net
from tests.test_lists import LISTS, TWO, is_odd_by
from tests.test_poles import does_by
from tests.test_signs import TEN, are_right_by, some_signs

CHANCE = random.Random(161)
FIVE, SIX, FOURS = told_table("five"), told_table("six"), opposite(FANO)
TOLD = {"five": FIVE, "six": SIX, "fours": FOURS, "seven": FANO}


def grown(table, many):
    while table.many < many:
        line = CHANCE.randrange(table.many)
        lot = CHANCE.choice([(line,), tuple(k for k in range(table.many) if CHANCE.random() < 0.4)])
        pick = tuple(k for k, told in enumerate(table.form) if line in told)
        table = widened(table, lot) if CHANCE.random() < 0.5 else lengthened(table, pick)
    return relined(table, tuple(CHANCE.sample(range(many), many)))


TABLES = ([FANO, FOURS, FIVE, SIX, TEN, opposite(FIVE), opposite(SIX), ROUNDS, BOTH, SPLIT, beside(FANO, BOTH),
           beside(Table(1, ()), FIVE), opposite(TEN)]
          + [grown(table, table.many + CHANCE.randint(1, 2)) for table in (FANO, FOURS, FIVE, SIX, ROUNDS, SPLIT)]
          + [table_of(net) for net in picked_nets(162, 10, 6, 10) + [hanging_net(CHANCE, 6, 10) for _ in range(6)]]
          + picked_tables(163, 10, 5, 9))


# Definitions, told once more.

def is_net_with(table, net):
    """Whether the lots with an even number of line ends at each knot are the sums of the table."""
    if not isinstance(net, Net) or len(net.lines) != table.many:
        return False
    even = [lot for lot in subsets(range(table.many))
            if not any(sum(net.lines[line].count(knot) for line in lot) % 2 for knot in range(net.knots))]
    return set(even) == table_sums(table)


def is_bar_of(table, bar):
    word, steps, names = bar
    for step, line in steps:
        pair = ((line,), ()) if step == "out" else ((), (line,))
        table = table_by(table.many - 1, lesser_sums(table, *pair))
    told = TOLD[word]
    if sorted(names) != list(range(table.many)) or told.many != table.many:
        return False
    return {tuple(sorted(names[line] for line in lot)) for lot in table_sums(told)} == table_sums(table)


def is_star_by(table, cut):
    return cut in cuts_by(table) and len(bridges_by(table, cut)) < 2


def is_stop_of(table, steps, end):
    for step in steps:
        lots = parts_by(table)
        if step[0] == "part":
            stay = lots[step[1]]
            if len(lots) < 2:
                return False
        else:
            if len(lots) > 1 or step[1] not in cuts_by(table):
                return False
            stay = sorted(step[1] + bridges_by(table, step[1])[step[2]])
        gone = tuple(line for line in range(table.many) if line not in stay)
        table = table_by(len(stay), lesser_sums(table, (), gone))
    if len(parts_by(table)) > 1:
        return False
    if end[0] == "three":
        return len(set(end[2])) == 3 and all(is_star_by(table, cut) and end[1] in cut for cut in end[2])
    many, pairs = len(bridges_by(table, end[1])), clashes_by(table, end[1])
    return end[1] in cuts_by(table) and is_row_by(many, pairs, end[2])


class AllAlong(Case):
    """One table all along stages 2 to 15."""

    def test_tables(self):
        words = set()
        for table in TABLES:
            told = kind(table)
            words.add(told)
            self.check_net(table, net_of(table), told in ("flat", "net"))
            self.check_net(opposite(table), net_of(opposite(table)), told in ("flat", "opposite"))
            self.check_stop(table)
            signs = self.check_signs(table, told)
            self.check_paper(table, kind_paper(table), told)
            self.check_texts(table, signs)
        self.assertEqual(words, set(KINDS))

    def check_net(self, table, net, right):
        self.assertEqual(net is not None, right)
        if right:
            self.assertTrue(is_net_with(table, net))
            self.assertTrue(is_net_with(table, unlike_net(CHANCE, net)))
            self.assertEqual(read_net(net_text(net)), net)
            self.assertIs(is_faces_or_bar(net, faces_or_bar(net)), True)

    def check_stop(self, table):
        value = net_or_stop(table)
        self.assertIs(is_net_or_stop(table, value), True)
        if value[0] == "stop":
            self.assertTrue(is_stop_of(table, *value[1:]))
        value = net_or_bar(table)
        if value[0] == "bar":
            self.assertTrue(is_bar_of(table, value[1]))
            self.assertEqual(read_bar(table, bar_text(table, value[1])), value[1])
            self.assertEqual(read_steps(table, steps_text(table, value[1][1])), value[1][1])

    def check_signs(self, table, told):
        value = signs_or_bar(table)
        self.assertIs(is_signs_or_bar(table, value), True)
        self.assertEqual(value[0] == "signs", told != "bare")
        if value[0] != "signs":
            self.assertTrue(value[0] in ("seven", "fours") and is_bar_of(table, value))
            return None
        self.assertTrue(are_right_by(table, value[1]))
        self.assertEqual(square_count(table, value[1]), tree_count(table))
        return value[1]

    def check_paper(self, table, paper, told):
        self.assertEqual(paper[0], told)
        self.assertIs(is_kind_paper(table, paper), True)
        forms = {"flat": "no", "net": "nb", "opposite": "bo", "signed": "sbx", "bare": "B"}[told]
        for letter, value in zip(forms, paper[1:]):
            other = opposite(table)
            right = {"n": lambda: is_net_with(table, value), "o": lambda: is_net_with(other, value),
                     "b": lambda: is_bar_of(other if told == "net" else table, value),
                     "x": lambda: is_bar_of(other, value),
                     "s": lambda: are_right_by(table, value),
                     "B": lambda: is_bar_of(table, value) and value[0] in ("seven", "fours")}[letter]()
            self.assertTrue(right, (told, letter))

    def check_texts(self, table, signs):
        text = table_text(table)
        self.assertEqual((read_table(text), read_table(text).lots), (table, table.lots))
        signs = some_signs(table) if signs is None else signs
        self.assertEqual(read_signs(table, signs_text(table, signs)), signs)
        line = CHANCE.randrange(table.many)
        if does_hang(table) and table.many > 1:
            wishes = list_of_table(table, line)
            self.assertEqual(read_list(list_text(wishes)), wishes)

    def test_bench_and_claims(self):
        for table in TABLES[::3]:
            bench = Bench(table)
            for _ in range(5):
                deed = CHANCE.choice([("out", 0), ("join", 0), ("sum", (0,)), ("opposite",)])
                if bench.table.many > 2:
                    bench.do(deed)
                claims = (("net", bench.table), ("flat", bench.table), ("signed", bench.table))
                told, paper = settled(("each", claims))
                self.assertIs(does_take(told, paper), True)
                self.assertIs(does_take(opposite_claim(told), paper), False)
                self.assertEqual(told[0] == "each", bench.kind() == "flat")

    def test_nets_led_down(self):
        for net in picked_nets(164, 10, 6, 9):
            bench = Bench(table_of(net))
            while bench.table.many > 1:
                deed = (CHANCE.choice(("out", "join")), CHANCE.randrange(bench.table.many))
                bench.do(deed)
                net = led_net(net, deed)
                self.assertTrue(is_net_with(bench.table, net))
                self.assertIn(bench.kind(), ("flat", "net"))


class Nets(Case):
    """[0.16]"""

    def test_several_bridges(self):
        found = set()
        for table in [table for table in TABLES if does_hang(table) and table.many > 1]:
            for cut in cuts(table)[:40]:
                many = len(bridges(table, cut))
                if many > 1:
                    right = is_even(table, cut) and all(net_of(component(table, cut, k)[0]) for k in range(many))
                    self.assertEqual(net_of(table) is not None, right)
                    found.add(right)
        self.assertEqual(found, {True, False})

    def test_stars(self):
        for net in [hanging_net(CHANCE, 6, 9) for _ in range(12)]:
            table = table_of(net)
            for cut in cuts(table):
                if is_star_cut(table, cut):
                    for other in (net, unlike_net(CHANCE, net), net_of(table)):
                        self.assertIn(cut, [star(other, knot) for knot in range(other.knots)])

    def test_either_or(self):
        for table in TABLES:
            self.assertEqual(net_or_stop(table)[0] == "net", net_of(table) is not None)


class Bars(Case):
    """[0.17]"""

    def has_told(self, table, known):
        """Whether leaving out and joining leads to a told table, by trying all steps."""
        key = (table.many, table.form)
        if key not in known:
            known[key] = word_of(table) is not None or table.many > 7 and any(
                self.has_told(lesser(table, step), known)
                for step in itertools.product(("out", "join"), range(table.many)))
        return known[key]

    def test_either_or(self):
        known, seen = {}, set()
        for table in TABLES + picked_tables(165, 12, 7, 9):
            if table.many < 11:
                told = self.has_told(table, known)
                self.assertEqual(net_of(table) is None, told)
                value = net_or_bar(table)
                self.assertEqual(value[0] == "bar", told)
                seen.add(told)
        self.assertEqual(seen, {True, False})

    def test_told_tables(self):
        for word, table in TOLD.items():
            self.assertEqual(word_of(table), word)
            self.assertIsNone(net_of(table))
        self.assertTrue(is_net_with(opposite(FIVE), Net(5, tuple(itertools.combinations(range(5), 2)))))
        self.assertTrue(is_net_with(opposite(SIX), Net(6, tuple(itertools.product(range(3), range(3, 6))))))


class Painting(Case):
    """[0.18]"""

    def test_painting(self):
        for table in small_tables(3) + [table for table in TABLES if table.many < 9][::2]:
            rings, cuts_too = rings_of(table_sums(table)), cuts_by(table)
            for line in range(table.many):
                for first in subsets([k for k in range(table.many) if k != line]):
                    ring = any(line in lot and set(lot) <= {line, *first} for lot in rings)
                    cut = any(line in lot and not set(lot) & set(first) for lot in cuts_too)
                    self.assertNotEqual(ring, cut)
                    self.assertEqual(painted(table, line, first)[0], "ring" if ring else "cut")


class Signs(Case):
    """[0.19]"""

    def test_signs(self):
        for table in TABLES:
            self.assertEqual(signs_or_bar(table)[0] == "signs", sign_count(table) > 0)
            for signs in [some_signs(table) for _ in range(2)]:
                whole, trees = square_count(table, signs), tree_count(table)
                self.assertGreaterEqual(whole, trees)
                self.assertEqual(whole == trees, are_right_signs(table, signs))

    def test_even_cuts(self):
        for table in [table for table in TABLES if sign_count(table)]:
            even = all(sides_by(len(bridges_by(table, cut)), clashes_by(table, cut)) for cut in cuts_by(table))
            self.assertEqual(net_of(table) is not None, even)
            self.assertEqual(net_or_uneven(table)[0] == "net", even)


class Kinds(Case):
    """[0.20]"""

    def test_kinds(self):
        for table in TABLES:
            self.assertIn(kind(table), KINDS)
            told = [net_of(table) is not None, net_of(opposite(table)) is not None, sign_count(table) > 0]
            right = {"flat": told[0] and told[1], "net": told[0] and not told[1], "opposite": told[1] and not told[0],
                     "signed": told[2] and not told[0] and not told[1], "bare": not told[2]}
            self.assertEqual([word for word in KINDS if right[word]], [kind(table)])

    def test_drawn_with_faces(self):
        for net in picked_nets(166, 20, 5, 9) + [WHEEL]:
            value = faces_or_bar(net)
            table = table_of(net)
            self.assertEqual(value[0] == "faces", kind(table) == "flat")
            if value[0] == "faces":
                other = net_by_faces(net, value[1])
                # The knots of the other net are the faces, and the outer lot.
                lots = value[1] + (add(*value[1]),)
                self.assertEqual(tuple(star(other, knot) for knot in range(other.knots)), lots)
                self.assertTrue(is_net_with(opposite(table), other))


class Wishes(Case):
    """[0.21], [0.15]"""

    def test_wishes(self):
        seen = set()
        for wishes in LISTS + [list_of_table(table, 0) for table in TABLES if does_hang(table) and table.many > 1]:
            right = is_odd_by(wishes) and net_of(table_of_list(wishes)) is not None
            value = net_or_paper(wishes)
            seen.add(value[0])
            self.assertEqual(value[0] == "net", right)
            self.assertIs(is_net_or_paper(wishes, value), True)
            if right:
                self.assertTrue(does_by(value[1], wishes) and does_hang(table_of_list(wishes)))
                self.assertEqual(ways(value[1]), wishes)
            for cut in cuts_of(wishes):
                self.assertTrue(all(set(cut) & set(wish) for wish in wishes))
        self.assertEqual(seen, {"net", "even", "barred"})


class Conventions(Case):
    """[0.1], [0.2], [0.7] to [0.11]"""

    def test_equal_calls(self):
        for table in TABLES[::4]:
            for function in (sums, opposite, kind, net_of, tree_count, kind_paper, net_or_stop, net_or_bar):
                self.assertEqual(function(table), function(Table(table.many, table.form)))

    def test_kinds_of_values(self):
        for table in TABLES[::4]:
            lots = sorted(table_sums(table))
            self.assertEqual(list(sums(table)), lots)
            for lot in lots[:20]:
                self.assertIs(is_sum(table, lot), True)
                self.assertEqual(add(*(table.form[k] for k in sum_by(table, lot))), lot)
            lot = (0,) if (0,) not in lots else tuple(range(table.many))
            if lot not in lots:
                self.assertTrue(odd(tested(table, lot), lot))

    def test_no_iteration(self):
        for thing in (FANO, WHEEL, Bench(FANO)):
            with self.assertRaises(TypeError):
                iter(thing)
            self.assertIs(thing == object(), False)
            self.assertIs(thing != thing, False)
            self.assertNotIn(thing, [None, 3, "x", (), [], {}])


class NotTrue(Case):
    """[0.23]"""

    def test_right_signs_and_no_net(self):
        for table in (TEN, FIVE, SIX):
            self.assertGreater(sign_count(table), 0)
            self.assertIsNone(net_of(table))

    def test_opposite_of_a_net(self):
        self.assertIsNone(net_of(opposite(table_of(Net(5, tuple(itertools.combinations(range(5), 2)))))))

    def test_even_cuts(self):
        self.assertTrue(all(is_even(FANO, cut) for cut in cuts(FANO)))
        self.assertIsNone(net_of(FANO))

    def test_steps_of_no_net(self):
        for step in itertools.product(("out", "join"), range(7)):
            self.assertIsNotNone(net_of(lesser(FANO, step)))

    def test_nets_with_equal_tables(self):
        one, other = Net(4, ((0, 1), (1, 2), (2, 3))), Net(4, ((0, 1), (0, 2), (0, 3)))
        self.assertEqual(table_of(one), table_of(other))
        ends = [sorted(len(star(net, knot)) for knot in range(4)) for net in (one, other)]
        self.assertEqual(ends, [[1, 1, 2, 2], [1, 1, 1, 3]])

    def test_list_without_net(self):
        self.assertTrue(is_list(TWO) and odd_or_pair(TWO) != ("odd",))
        self.assertEqual(net_or_paper(TWO)[0], "even")

    def test_sum_of_rings(self):
        self.assertTrue(is_ring(BOTH, (0, 1)) and is_ring(BOTH, (2, 3)))
        self.assertIs(is_ring(BOTH, add((0, 1), (2, 3))), False)


class Currents(Case):
    """[0.22]"""

    def test_one_flow(self):
        for net in [hanging_net(CHANCE, 5, 8) for _ in range(6)]:
            table, signs = table_of(net), net_signs(net)
            weights = tuple(CHANCE.randint(1, 9) for _ in range(table.many))
            sources = tuple(CHANCE.randint(-9, 9) for _ in range(table.many))
            whole, flow, _ = currents(table, signs, weights, sources)
            self.assertGreater(whole, 0)
            left = [0] * net.knots
            for number, (a, b) in zip(flow, net.lines):
                left[a], left[b] = left[a] + number, left[b] - number
            self.assertFalse(any(left))
