"""Stage 13: five kinds."""

import itertools
import random

from ringtables.errors import InvalidOperation, InvalidTable, TooMany
from ringtables.main import kinds as module
from ringtables.main.bars import net_or_bar, opposite_bar, told_table, word_of
from ringtables.main.found import net_of
from ringtables.main.kinds import flat_or_bar, is_flat_or_bar, is_kind_paper, kind, kind_by, kind_paper, kinds_of_parts
from ringtables.net.nets import Net, is_net_of, table_of
from ringtables.sign.signs import sign_count, signs_or_bar
from ringtables.table.lesser import behind, lengthened, lesser, widened
from ringtables.table.parts import beside, parts
from ringtables.table.rings import size_counts
from ringtables.table.tables import Table, opposite, relined
from tests.support import ALL1, ALL24, BOTH, EVEN24, FANO, NONE1, NONE24, NOT_TABLES, ONE24, ROUNDS, STRANGE, WHEEL
from tests.support import Case, hanging_net, is_net_by, picked_nets, picked_tables, small_tables, unlike_net, whole_net

CHANCE = random.Random(61)
KINDS = ("flat", "net", "opposite", "signed", "bare")
FIVE, SIX, FOURS = told_table("five"), told_table("six"), opposite(FANO)
TEN = Table(10, ((0, 5, 6, 9), (1, 5, 6, 7), (2, 6, 7, 8), (3, 7, 8, 9), (4, 5, 8, 9)))
HEXAGON = Net(4, ((0, 1), (0, 2), (1, 2), (0, 3), (1, 3), (2, 3)))
# One table of each kind.
TOLD = {"flat": ROUNDS, "net": opposite(FIVE), "opposite": SIX, "signed": TEN, "bare": FANO}
EIGHTS = [widened(FANO, (0, 1)), widened(FANO, ()), lengthened(FANO, (1, 3)), widened(FOURS, (2,)),
          lengthened(FOURS, (0,))]
TABLES = (small_tables(3) + picked_tables(62, 40, 4, 8) + EIGHTS + list(TOLD.values())
          + [FOURS, opposite(TEN), opposite(SIX), FIVE, BOTH, beside(FIVE, ALL1), beside(NONE1, opposite(SIX))])
NAMES = tuple(range(7))


def kind_of_parts(table):
    return kind_by(kinds_of_parts(table))


def grown(table):
    """The table with one line more."""
    if CHANCE.random() < 0.5:
        return widened(table, tuple(k for k in range(table.many) if CHANCE.random() < 0.3))
    return lengthened(table, tuple(k for k in range(table.size) if CHANCE.random() < 0.5))


class Kinds(Case):
    """[0.20], [13.1]"""

    def test_constants(self):
        self.assertEqual(module.KINDS, KINDS)

    def test_kinds(self):
        for word, table in TOLD.items():
            self.assertEqual(kind(table), word)
            order = tuple(CHANCE.sample(range(table.many), table.many))
            self.assertEqual(kind(relined(table, order)), word)

    def test_by_nets_and_signs(self):
        for table in TABLES + [grown(table) for table in TOLD.values() for _ in range(6)]:
            is_net, is_other = net_of(table) is not None, net_of(opposite(table)) is not None
            told = kind(table)
            if table.many < 9:
                # Up to eight lines tables are flat or bare.
                self.assertEqual(told, "flat" if is_net_by(table) else "bare")
            self.assertEqual(told in ("flat", "net"), is_net)
            self.assertEqual(told in ("flat", "opposite"), is_other)
            self.assertEqual(told != "bare", sign_count(table) > 0)
            self.assertEqual(told != "bare", sign_count(opposite(table)) > 0)

    def test_words_of_bars(self):
        for table in TABLES:
            value = net_or_bar(table)
            if value[0] == "bar" and value[1][0] in ("seven", "fours"):
                self.assertEqual(kind(table), "bare")
            if value[0] == "bar" and kind(table) == "bare":
                self.assertIn(signs_or_bar(table)[0], ("seven", "fours"))

    def test_great(self):
        for table in (NONE24, ALL24, EVEN24, ONE24):
            self.assertEqual(kind(table), "flat")
        seven = table_of(whole_net(7))
        self.assertEqual([kind(seven), kind(opposite(seven))], ["net", "opposite"])
        self.assertEqual(kind(beside(FANO, Table(9, ()))), "bare")
        self.assertEqual(kind(beside(TEN, Table(6, ((0, 1),)))), "signed")

    def test_too_many(self):
        # More than 16 lines, and neither the table nor its opposite is a net's.
        tables = [beside(FANO, Table(10, ())), beside(TEN, Table(7, ((0, 1),))), beside(FIVE, opposite(FIVE)),
                  beside(SIX, opposite(SIX)), beside(FANO, beside(TEN, FOURS)), beside(FANO, Table(17, ()))]
        for table in tables:
            for function in (kind, kind_paper):
                self.check_error(TooMany, {"limit": 16}, function, table)
        for table in (beside(FIVE, Table(14, ())), beside(opposite(SIX), Table(15, ((0, 1),)))):
            self.assertIn(kind(table), ("net", "opposite"))
            self.assertIs(is_kind_paper(table, kind_paper(table)), True)


class Opposites(Case):
    """[13.2]"""

    def test_opposites(self):
        changed = {"net": "opposite", "opposite": "net"}
        for table in TABLES:
            told = kind(table)
            self.assertEqual(kind(opposite(table)), changed.get(told, told))


class Lesser(Case):
    """[13.3]"""

    def test_lesser_ones(self):
        below = {"flat": {"flat"}, "net": {"flat", "net"}, "opposite": {"flat", "opposite"},
                 "signed": {"flat", "net", "opposite", "signed"}, "bare": set(KINDS)}
        for table in TABLES + [grown(table) for table in TOLD.values() for _ in range(3)]:
            if table.many > 1:
                told = kind(table)
                for word, line in itertools.product(("out", "join"), range(table.many)):
                    self.assertIn(kind(lesser(table, (word, line))), below[told])


class Parts(Case):
    """[13.4]"""

    def test_two_parts(self):
        for (one, first), (other, second) in itertools.product(TOLD.items(), repeat=2):
            table = beside(first, second)
            self.assertEqual(kinds_of_parts(table), (one, other))
            if table.many < 17 or net_of(table) or net_of(opposite(table)):
                self.assertEqual(kind(table), kind_by((one, other)))

    def test_parts(self):
        for table in TABLES:
            self.assertEqual(len(kinds_of_parts(table)), len(parts(table)))
            self.assertEqual(kind(table), kind_of_parts(table))

    def test_kind_by(self):
        for count in (1, 2, 3, 4):
            for words in itertools.product(KINDS, repeat=count):
                told = set(words)
                if "bare" in told:
                    right = "bare"
                elif "signed" in told or told >= {"net", "opposite"}:
                    right = "signed"
                elif told & {"net", "opposite"}:
                    right = (told & {"net", "opposite"}).pop()
                else:
                    right = "flat"
                self.assertEqual(kind_by(words), right)
        self.assertEqual(kind_by(("flat",) * 24), "flat")
        self.assertEqual(kind_by(("flat",) * 23 + ("bare",)), "bare")

    def test_too_many(self):
        # Each part has 16 lines at most: none is too large, for all that the table is.
        self.assertEqual(kinds_of_parts(beside(FANO, Table(17, ()))), ("bare",) + ("flat",) * 17)
        self.assertEqual(kinds_of_parts(beside(FIVE, opposite(FIVE))), ("opposite", "net"))
        self.assertEqual(kinds_of_parts(NONE24), ("flat",) * 24)
        # One part of 17 lines: FANO with lines side by side.
        table = FANO
        for _ in range(10):
            table = widened(table, (0,))
        self.assertEqual((table.many, len(parts(table))), (17, 1))
        for more in (table, beside(ROUNDS, table), beside(table, NONE1)):
            self.check_error(TooMany, {"limit": 16}, kinds_of_parts, more)

    def test_wrong(self):
        for words in ((), None, ["flat"], "flat", ("flat",) * 25, ("Flat",), (True,), (None,), ("flat", "five"), {}, 1,
                      ("flat", ["net"]), ({},), (("flat",),), ("flat", FANO), FANO, ("net", 10 ** 60), ("flats",)):
            self.check_error(InvalidOperation, {}, kind_by, words)
        for value in STRANGE:
            self.check_error(InvalidOperation, {}, kind_by, value)


class Papers(Case):
    """[13.5]"""

    def test_papers(self):
        for table in TABLES + [grown(table) for table in TOLD.values() for _ in range(3)]:
            value = kind_paper(table)
            self.assertEqual(value[0], kind(table))
            self.assertIs(is_kind_paper(table, value), True)

    def test_unlike_nets(self):
        for net in [hanging_net(CHANCE, 6, 10) for _ in range(20)] + picked_nets(63, 20, 5, 9):
            table = table_of(net)
            value = kind_paper(table)
            self.assertIs(is_kind_paper(table, (value[0], unlike_net(CHANCE, net)) + value[2:]), True)
            if value[0] == "flat":
                self.assertIs(is_kind_paper(table, value[:2] + (unlike_net(CHANCE, value[2]),)), True)
                self.assertIs(is_flat_or_bar(table, value), True)

    def test_papers_of_others(self):
        papers = {word: kind_paper(table) for word, table in TOLD.items()}
        for word, table in TOLD.items():
            for other, value in papers.items():
                self.assertIs(is_kind_paper(table, value), word == other)
                for name in KINDS:
                    self.assertIs(is_kind_paper(table, (name,) + value[1:]), word == name == other)

    def test_judge_takes_nothing_else(self):
        for word, table in TOLD.items():
            value = kind_paper(table)
            self.check_takes(is_kind_paper, (table,), value)
            self.check_never(is_kind_paper, (table,))
            self.assertIs(is_kind_paper(table, value + (None,)), False)
            self.assertIs(is_kind_paper(table, value[:-1]), False)
            for k in range(1, len(value)):
                for other in STRANGE:
                    right = word == "flat" and k == 1 and other is WHEEL
                    self.assertIs(is_kind_paper(table, value[:k] + (other,) + value[k + 1:]), right)

    def test_bare(self):
        for table in (FANO, FOURS, EIGHTS[0], beside(FANO, SIX), EIGHTS[1]):
            bar = signs_or_bar(table)
            self.assertIs(is_kind_paper(table, ("bare", bar)), True)
        table = beside(SIX, FANO)
        bar = ("six", (("out", 9),) * 7, tuple(range(9)))
        self.assertIs(is_kind_paper(table, ("bare", bar)), False)
        self.assertIs(is_flat_or_bar(table, ("table", bar)), True)
        # A paper of a bare table is judged in more than 16 lines, too.
        table = beside(FANO, Table(17, ()))
        bar = ("seven", (("out", 7),) * 17, NAMES)
        self.assertIs(is_kind_paper(table, ("bare", bar)), True)

    def test_signed_in_more_than_sixteen_lines(self):
        signs, bar, further = kind_paper(TEN)[1:]
        table = beside(TEN, Table(7, ()))
        longer = tuple(row + (0,) * 7 for row in signs)
        steps = (("out", 10),) * 7
        bars = [(bar[0], steps + bar[1], bar[2]), (further[0], steps + further[1], further[2])]
        self.assertIs(is_kind_paper(table, ("signed", longer, bars[0], bars[1])), False)
        table = beside(TEN, Table(6, ()))
        steps = (("out", 10),) * 6
        bars = [(bar[0], steps + bar[1], bar[2]), (further[0], steps + further[1], further[2])]
        value = ("signed", tuple(row + (0,) * 6 for row in signs), bars[0], bars[1])
        self.assertIs(is_kind_paper(table, value), True)

    def test_wrong(self):
        tables = (InvalidTable, NOT_TABLES)
        for function in (kind, kind_paper, kinds_of_parts, flat_or_bar):
            self.check_wrong(function, (FANO,), [tables])
        for table in TOLD.values():
            self.check_judge_wrong(is_kind_paper, (FANO,), kind_paper(table), [tables])
            self.check_judge_wrong(is_flat_or_bar, (FANO,), flat_or_bar(table), [tables])


class Flat(Case):
    """[13.6]"""

    def test_flat_or_bar(self):
        words = set()
        for table in TABLES + [grown(table) for table in TOLD.values() for _ in range(4)]:
            value = flat_or_bar(table)
            self.assertIs(is_flat_or_bar(table, value), True)
            self.assertEqual(value[0] == "flat", kind(table) == "flat")
            if value[0] == "flat":
                self.assertIs(is_net_of(table, value[1]), True)
                self.assertIs(is_net_of(opposite(table), value[2]), True)
            else:
                one = table if value[0] == "table" else opposite(table)
                words.add((value[0], word_of(behind(one, value[1][1]))))
        self.assertTrue(words >= set(itertools.product(("table", "opposite"), ("five", "six"))))

    def test_six_tables(self):
        for table in (FANO, FOURS, FIVE, SIX, opposite(FIVE), opposite(SIX)):
            self.assertNotEqual(kind(table), "flat")
            for word, line in itertools.product(("out", "join"), range(table.many)):
                self.assertEqual(kind(lesser(table, (word, line))), "flat")

    def test_great(self):
        for table in [beside(TEN, Table(14, ())), table_of(whole_net(7)), NONE24, ONE24, beside(FIVE, opposite(FIVE))]:
            self.assertIs(is_flat_or_bar(table, flat_or_bar(table)), True)
        for table in picked_tables(64, 30, 17, 24):
            self.assertIs(is_flat_or_bar(table, flat_or_bar(table)), True)

    def test_judged(self):
        self.check_takes(is_flat_or_bar, (ROUNDS,), ("flat", WHEEL, HEXAGON))
        self.check_takes(is_flat_or_bar, (FANO,), ("table", ("seven", (), NAMES)))
        self.check_takes(is_flat_or_bar, (FANO,), ("opposite", ("fours", (), NAMES)))
        self.check_takes(is_flat_or_bar, (opposite(SIX),), ("opposite", ("six", (), tuple(range(9)))))
        self.assertIs(is_flat_or_bar(opposite(SIX), ("table", ("six", (), tuple(range(9))))), False)
        self.assertIs(is_flat_or_bar(ROUNDS, ("flat", HEXAGON, WHEEL)), False)
        self.assertIs(is_flat_or_bar(FANO, ("bare", ("seven", (), NAMES))), False)
        for word, table in TOLD.items():
            self.check_never(is_flat_or_bar, (table,))
            self.assertIs(is_flat_or_bar(table, kind_paper(table)), word == "flat")
            for value in STRANGE:
                for told in (("table", value), ("opposite", value), ("flat", value, value), ("flat", value)):
                    self.assertIs(is_flat_or_bar(table, told), False)

    def test_bar_of_the_opposite(self):
        bar = opposite_bar(FANO, ("seven", (), NAMES))
        self.assertIs(is_flat_or_bar(FANO, ("opposite", bar)), True)


class NotTrue(Case):
    """[13.7]"""

    def test_lesser_ones_are_flat(self):
        for word, line in itertools.product(("out", "join"), range(7)):
            self.assertEqual(kind(lesser(FANO, (word, line))), "flat")
        self.assertEqual(kind(FANO), "bare")

    def test_net_without_flat_lesser_ones(self):
        table = beside(opposite(FIVE), opposite(FIVE))
        self.assertEqual(kind(table), "net")
        for word, line in itertools.product(("out", "join"), range(table.many)):
            self.assertEqual(kind(lesser(table, (word, line))), "net")

    def test_same_sizes(self):
        one = Table(9, ((0, 5), (1, 6, 8), (2, 7, 8), (3, 6, 7, 8), (4, 5, 8)))
        other = Table(9, ((0, 5, 8), (1, 5, 6, 7), (2, 8), (3, 5, 6, 7, 8), (4, 6, 8)))
        self.assertEqual((one.many, size_counts(one)), (other.many, size_counts(other)))
        self.assertEqual([kind(one), kind(other)], ["flat", "bare"])
