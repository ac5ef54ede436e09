"""Stage 12: bars."""

import itertools
import random

from ringtables.errors import InvalidOperation, InvalidTable, Refused, UnknownName
from ringtables.main import bars as module
from ringtables.main.bars import are_least_steps, are_names, is_bar, is_least, is_net_or_bar, least_steps, name_count
from ringtables.main.bars import names_for, net_or_bar, opposite_bar, told_table, word_of
from ringtables.main.found import net_of
from ringtables.net.nets import Net, table_of
from ringtables.sign.signs import sign_count
from ringtables.table.bridges import bridges, clashes
from ringtables.table.lesser import behind, lengthened, lesser, widened
from ringtables.table.parts import beside
from ringtables.table.tables import Table, opposite, order_back, relined
from ringtables.table.trees import tree_of
from tests.support import ALL1, ALL24, BOTH, EVEN24, FANO, NONE1, NONE24, NOT_TABLES, ONE24, ROUNDS, STARS, STRANGE
from tests.support import TWOS, WHEEL, Case, cuts_by, every_table, hanging_net, is_net_by, lesser_sums, picked_nets
from tests.support import picked_tables, small_tables, subsets, table_by, table_sums, unlike_net, whole_net

CHANCE = random.Random(41)
WORDS = ("five", "fours", "seven", "six")
SIXES = Net(6, tuple((a, b) for a in range(3) for b in range(3, 6)))
SEVEN, FOURS, FIVE, SIX = FANO, opposite(FANO), opposite(table_of(whole_net(5))), opposite(table_of(SIXES))
TOLD = {"seven": SEVEN, "fours": FOURS, "five": FIVE, "six": SIX}
COUNTS = {"seven": 168, "fours": 168, "five": 120, "six": 72}
LONGER = Table(8, ((0, 1, 3), (1, 2, 4), (2, 3, 5), (3, 4, 6), (0, 7)))
EIGHTS = ([widened(SEVEN, lot) for lot in ((), (0,), (0, 1), (0, 1, 3), (0, 1, 2))]
          + [lengthened(SEVEN, pick) for pick in ((), (0,), (1, 3), (0, 1, 2, 3))]
          + [widened(FOURS, lot) for lot in ((), (2,), (0, 1))] + [lengthened(FOURS, (0, 2)), LONGER])
TABLES = small_tables(3) + picked_tables(42, 60, 4, 7) + picked_tables(43, 40, 8, 8) + EIGHTS + [SEVEN, FOURS, BOTH]
NAMES = tuple(range(7))
NOT_WORDS = ["eight", "", "Seven", "sevens", None, True, False, 0, 7, (), ("seven",), [], ["five"], {}, {"six": 1},
             FANO, WHEEL, 10 ** 59, "x" * 250000, "six\n"]
NO_STEPS = [None, True, 0, "out", [], {}, ("out", 0), [("out", 0)], (("out", 8),), (("out", True),), (("cut", 0),),
            (["out", 0],), (("out", 0),) * 8, (("out", 0), ("join", 7)), ((),), (None,), (FANO,), (("out", 10 ** 60),)]


def are_names_by(table, told, names):
    """Whether the sums of the told table, named so, are those of the table."""
    if sorted(names) != list(range(table.many)) or table.many != told.many:
        return False
    return {tuple(sorted(names[line] for line in lot)) for lot in table_sums(told)} == table_sums(table)


def shuffled(table):
    return relined(table, tuple(CHANCE.sample(range(table.many), table.many)))


def grown(table, steps):
    """The table with further lines, put in by ways back of steps."""
    for _ in range(steps):
        if CHANCE.random() < 0.5:
            lot = tuple(k for k in range(table.many) if CHANCE.random() < 0.4)
            table = widened(table, lot)
        else:
            table = lengthened(table, tuple(k for k in range(table.size) if CHANCE.random() < 0.4))
    return shuffled(table)


class Told(Case):
    """[0.13]"""

    def test_constants(self):
        self.assertEqual(module.WORDS, WORDS)

    def test_told_tables(self):
        for word in WORDS:
            table = told_table(word)
            self.assertEqual(table, TOLD[word])
            self.assertEqual(table.lots, table.form)
        self.assertEqual([TOLD[word].many for word in WORDS], [10, 7, 7, 9])
        self.assertEqual(TOLD["five"], STARS)

    def test_wrong(self):
        for word in NOT_WORDS:
            self.check_error(UnknownName, {"wanted": word}, told_table, word)


class Names(Case):
    """[12.1], [12.6]"""

    def test_all_names_of_seven(self):
        for word in ("seven", "fours"):
            told = TOLD[word]
            for table in (told, shuffled(told), shuffled(TOLD["seven"]), shuffled(TOLD["fours"])):
                right = {names for names in itertools.permutations(range(7)) if are_names_by(table, told, names)}
                self.assertEqual(name_count(table, word), len(right))
                self.assertIn(len(right), (0, 168))
                self.assertTrue(names_for(table, word) in right if right else names_for(table, word) is None)
        taken = self.check_judged(are_names, (FANO, "seven"), itertools.permutations(range(7)),
                                  lambda value: are_names_by(FANO, FANO, value))
        self.assertEqual(taken, 168)

    def test_names(self):
        for word, told in TOLD.items():
            for table in (told, shuffled(told), shuffled(told)):
                self.assertEqual(word_of(table), word)
                self.assertEqual(name_count(table, word), COUNTS[word])
                names = names_for(table, word)
                self.assertTrue(are_names_by(table, told, names))
                self.assertIs(are_names(table, word, names), True)
                for other in WORDS:
                    if other != word:
                        self.assertEqual((name_count(table, other), names_for(table, other)), (0, None))
                        self.assertIs(are_names(table, other, names), False)
                        self.assertIs(are_names(table, other, None), False)

    def test_names_are_those_by_which_the_table_is_relined(self):
        for word, told in TOLD.items():
            order = tuple(CHANCE.sample(range(told.many), told.many))
            table = relined(told, order)
            self.assertIs(are_names(table, word, order_back(told, order)), True)

    def test_no_names(self):
        for table in picked_tables(44, 40, 7, 10) + [ROUNDS, NONE1, ALL1, NONE24, ALL24, EVEN24, Table(7, ()),
                                                     Table(9, tuple((k,) for k in range(5))), opposite(FIVE),
                                                     opposite(SIX), Table(10, tuple((k, 9) for k in range(4)))]:
            if word_of(table) is None:
                for word in WORDS:
                    self.assertEqual((name_count(table, word), names_for(table, word)), (0, None))
                    self.assertIs(are_names(table, word, tuple(range(table.many))), False)
                    self.assertIs(are_names(table, word, None), False)
            else:
                self.assertIsNone(net_of(table))

    def test_same_sizes(self):
        # Tables with as many lines and the same size as a told one, sums of the same sizes even, are not it.
        table = Table(10, ((0, 5, 6, 9), (1, 5, 6, 7), (2, 6, 7, 8), (3, 7, 8, 9), (4, 5, 8, 9)))
        self.assertIsNone(word_of(table))
        for many, size in ((7, 4), (7, 3), (10, 4), (9, 5)):
            for table in picked_tables(45, 30, many, many, lots=size):
                right = [word for word in WORDS if names_for(table, word) is not None]
                self.assertEqual(word_of(table), right[0] if right else None)
                for word in right:
                    self.assertTrue(are_names_by(table, TOLD[word], names_for(table, word)))

    def test_judge_takes_nothing_else(self):
        for word in WORDS:
            every = tuple(range(TOLD[word].many))
            self.check_takes(are_names, (TOLD[word], word), every)
            self.check_never(are_names, (TOLD[word], word))
            for value in (every[1:], every + (0,), (0,) + every[:-1], every[:-1] + (24,), (1, 0) + every[2:]):
                right = sorted(value) == list(every) and are_names_by(TOLD[word], TOLD[word], value)
                self.assertIs(are_names(TOLD[word], word, value), right)
        self.check_never(are_names, (NONE24, "six"))

    def test_wrong(self):
        tables = (InvalidTable, NOT_TABLES)
        self.check_wrong(word_of, (FANO,), [tables])
        for function, more in ((names_for, ()), (name_count, ()), (are_names, (None,)), (are_names, (NAMES,))):
            self.check_wrong(function, (FANO, "seven") + more, [tables])
            for word in NOT_WORDS:
                self.check_error(UnknownName, {"wanted": word}, function, FANO, word, *more)
                self.check_error(InvalidTable, {}, function, None, word, *more)
                self.check_error(UnknownName, {"wanted": word}, function, ROUNDS, word, *more)


class Bars(Case):
    """[12.2]"""

    def test_is_bar(self):
        for table in EIGHTS:
            taken = 0
            for word, line in itertools.product(("out", "join"), range(8)):
                pair = ((line,), ()) if word == "out" else ((), (line,))
                small = table_by(7, lesser_sums(table, *pair))
                for told in ("seven", "fours"):
                    names = names_for(small, told) or tuple(range(7))
                    right = are_names_by(small, TOLD[told], names)
                    self.assertIs(is_bar(table, (told, ((word, line),), names)), right)
                    taken += right
            self.assertGreater(taken, 0)

    def test_judged(self):
        names = tuple(range(7))
        self.check_takes(is_bar, (LONGER,), ("seven", (("out", 0),), (6, 0, 1, 2, 3, 4, 5)))
        self.check_takes(is_bar, (FANO,), ("seven", (), names))
        self.check_takes(is_bar, (FIVE,), ("five", (), tuple(range(10))))
        for table in (FANO, LONGER, ROUNDS, NONE24, ALL1, FIVE):
            self.check_never(is_bar, (table,))
            for value in STRANGE:
                self.assertIs(is_bar(table, (value, (), names)), False)
                # LONGER without its first line has all names in their sequence.
                right = () if table is FANO else (("out", 0),) if table is LONGER else None
                self.assertIs(is_bar(table, ("seven", value, names)), isinstance(value, tuple) and value == right)
                self.assertIs(is_bar(table, ("seven", (), value)), False)
        for steps in NO_STEPS:
            self.assertIs(is_bar(LONGER, ("seven", steps, names)), False)
        for value in (("seven", (), names, ()), ("seven", ()), ("fours", (), names), ("six", (), names)):
            self.assertIs(is_bar(FANO, value), False)

    def test_many_steps(self):
        table = beside(FANO, Table(17, ()))
        steps = tuple(("out" if k % 2 else "join", 7) for k in range(17))
        self.assertIs(is_bar(table, ("seven", steps, tuple(range(7)))), True)
        self.assertIs(is_bar(table, ("seven", steps[:-1], tuple(range(7)))), False)
        for many in (23, 24, 100):
            self.assertIs(is_bar(table, ("seven", (("out", 0),) * many, (0,))), False)


class TheyBar(Case):
    """[12.3]"""

    def test_no_told_table_is_a_nets(self):
        for word, told in TOLD.items():
            self.assertIsNone(net_of(told))
            self.assertEqual(net_or_bar(told)[0], "bar")

    def test_cuts_with_one_bridge(self):
        for told, size, times in ((SEVEN, 4, 4), (FOURS, 3, 3)):
            cuts = [cut for cut in cuts_by(told) if len(cut) == size]
            self.assertEqual(len(cuts), 7)
            self.assertTrue(all(len(bridges(told, cut)) == 1 for cut in cuts))
            for line in range(7):
                self.assertEqual(sum(line in cut for cut in cuts), times)
        self.assertEqual(len(cuts_by(SEVEN)), 7)
        # These have cuts of four lines, too, each with three bridges that are lines.
        self.assertEqual([len(bridges(FOURS, cut)) for cut in cuts_by(FOURS) if len(cut) == 4], [3] * 7)

    def test_rings_of_knots(self):
        for net, told, knots in ((whole_net(5), FIVE, (0, 1, 2, 3)), (SIXES, SIX, (0, 3, 1, 4, 2, 5))):
            around = [tuple(sorted(pair)) for pair in zip(knots, knots[1:] + knots[:1])]
            cut = tuple(line for line, pair in enumerate(net.lines) if pair in around)
            self.assertEqual(len(cut), len(knots))
            self.assertEqual(len(bridges(told, cut)), 3)
            self.assertEqual(clashes(told, cut), ((0, 1), (0, 2), (1, 2)))


class EitherOr(Case):
    """[0.17], [12.4]"""

    def test_either_or(self):
        barred = 0
        for table in TABLES:
            value = net_or_bar(table)
            self.assertIs(is_net_or_bar(table, value), True)
            self.assertEqual(value[0] == "net", is_net_by(table))
            if value[0] == "net":
                self.assertEqual(table_of(value[1]), table)
                continue
            word, steps, names = value[1]
            small = behind(table, steps)
            self.assertTrue(are_names_by(small, TOLD[word], names))
            self.assertIs(is_bar(table, value[1]), True)
            barred += 1
        self.assertGreater(barred, 10)

    def test_no_bar_of_a_net(self):
        for net in [hanging_net(CHANCE, 6, 10) for _ in range(20)] + picked_nets(46, 30, 6, 10):
            table = table_of(net)
            self.assertEqual(net_or_bar(table)[0], "net")
            self.assertIs(is_net_or_bar(table, ("net", unlike_net(CHANCE, net))), True)
            # No step more than one leads to a table of seven lines that has names.
            if table.many == 8:
                for word, line in itertools.product(("out", "join"), range(8)):
                    self.assertIsNone(word_of(lesser(table, (word, line))))

    def test_grown(self):
        words = set()
        for told in TOLD.values():
            for steps in (1, 1, 2, 3, 5, 8, 13):
                table = grown(told, min(steps, 24 - told.many))
                value = net_or_bar(table)
                self.assertEqual(value[0], "bar")
                self.assertIs(is_net_or_bar(table, value), True)
                self.assertTrue(are_names_by(behind(table, value[1][1]), TOLD[value[1][0]], value[1][2]))
                words.add(value[1][0])
        self.assertEqual(words, set(WORDS))

    def test_lone_lines_and_parts(self):
        for word, told in TOLD.items():
            for more in (NONE1, ALL1, ROUNDS, beside(NONE1, ALL1), beside(BOTH, ALL1)):
                for table in (beside(told, more), beside(more, told), shuffled(beside(told, more))):
                    value = net_or_bar(table)
                    self.assertEqual((value[0], value[1][0]), ("bar", word))
                    self.assertIs(is_bar(table, value[1]), True)

    def test_great(self):
        for table in (NONE24, ALL24, EVEN24, ONE24, TWOS, table_of(whole_net(7))):
            self.assertEqual(net_or_bar(table)[0], "net")
        for table in (opposite(table_of(whole_net(7))), opposite(table_of(whole_net(6))),
                      beside(FIVE, beside(SEVEN, FOURS)), beside(SIX, beside(SIX, Table(6, ((0, 1),))))):
            value = net_or_bar(table)
            self.assertIs(is_net_or_bar(table, value), True)
            self.assertEqual(value[0], "bar")
        for table in picked_tables(47, 50, 18, 24):
            self.assertIs(is_net_or_bar(table, net_or_bar(table)), True)

    def test_judged(self):
        self.check_takes(is_net_or_bar, (LONGER,), ("bar", ("seven", (("out", 0),), (6, 0, 1, 2, 3, 4, 5))))
        self.check_takes(is_net_or_bar, (ROUNDS,), ("net", WHEEL))
        for table in (FANO, ROUNDS, LONGER, NONE24, ALL1):
            self.check_never(is_net_or_bar, (table,))
            for value in STRANGE:
                self.assertIs(is_net_or_bar(table, ("bar", value)), False)
                self.assertIs(is_net_or_bar(table, ("net", value)), table is ROUNDS and value is WHEEL)
        self.assertIs(is_net_or_bar(FANO, ("bar", ("seven", (), tuple(range(7))))), True)
        self.assertIs(is_net_or_bar(FANO, ("seven", (), tuple(range(7)))), False)
        self.assertIs(is_net_or_bar(FANO, ("net", ("seven", (), tuple(range(7))))), False)

    def test_wrong(self):
        tables = (InvalidTable, NOT_TABLES)
        for function in (net_or_bar, is_least, least_steps):
            self.check_wrong(function, (FANO,), [tables])
        bar = ("seven", (), tuple(range(7)))
        for judge, right in ((is_net_or_bar, ("bar", bar)), (is_net_or_bar, ("net", WHEEL)), (is_bar, bar),
                             (are_least_steps, (("out", 0),))):
            self.check_judge_wrong(judge, (FANO,), right, [tables])


class Least(Case):
    """[12.4]"""

    def is_least_by(self, table):
        if table.many == 1 or is_net_by(table):
            return False
        steps = [pair for line in range(table.many) for pair in (((line,), ()), ((), (line,)))]
        return all(is_net_by(table_by(table.many - 1, lesser_sums(table, *pair))) for pair in steps)

    def test_is_least(self):
        for table in TABLES:
            self.assertIs(is_least(table), self.is_least_by(table))

    def test_told_tables_are_least(self):
        for told in TOLD.values():
            for table in (told, shuffled(told)):
                self.assertIs(is_least(table), True)
                self.assertIsNone(net_of(table))
                for word, line in itertools.product(("out", "join"), range(table.many)):
                    self.assertIsNotNone(net_of(lesser(table, (word, line))))
            self.assertIs(is_least(beside(told, NONE1)), False)
            self.assertEqual(is_least(opposite(told)), told in (SEVEN, FOURS))

    def test_least_steps(self):
        for table in TABLES + [grown(told, 4) for told in TOLD.values()]:
            steps = least_steps(table)
            self.assertIs(are_least_steps(table, steps), True)
            self.assertEqual(steps is None, net_of(table) is not None)
            self.assertIs(are_least_steps(table, None), steps is None)
            if steps is not None:
                self.assertIsNotNone(word_of(behind(table, steps)))

    def test_judged(self):
        right = 0
        for table in [LONGER, EIGHTS[1], EIGHTS[6]]:
            rows = [()] + [((word, line),) for word in ("out", "join") for line in range(-1, 9)]
            rows += [row + row for row in rows]
            right += self.check_judged(are_least_steps, (table,), rows, lambda value: (
                len(value) == 1 and 0 <= value[0][1] < 8 and self.is_least_by(behind(table, value))))
        self.assertGreater(right, 3)
        self.check_takes(are_least_steps, (LONGER,), (("out", 0),))
        self.check_takes(are_least_steps, (FANO,), ())
        self.check_never(are_least_steps, (LONGER,))
        self.check_never(are_least_steps, (ROUNDS,), none=True)
        for steps in NO_STEPS[1:]:
            self.assertIs(are_least_steps(LONGER, steps), False)
        self.assertIs(are_least_steps(NONE1, None), True)
        self.assertIs(are_least_steps(ROUNDS, ()), False)
        self.assertIs(are_least_steps(beside(FANO, NONE1), ()), False)


class Signs(Case):
    """[12.5]"""

    def test_signs(self):
        self.assertEqual([sign_count(TOLD[word]) > 0 for word in WORDS], [True, False, False, True])
        for told in (FIVE, SIX):
            found = 0
            for _ in range(30):
                table = grown(told, CHANCE.randint(1, 3))
                if sign_count(table):
                    self.assertIn(net_or_bar(table)[1][0], ("five", "six"))
                    found += 1
            self.assertGreater(found, 0)


class Opposites(Case):
    """[12.7]"""

    def test_opposite_bar(self):
        for table in EIGHTS + [SEVEN, FOURS] + [grown(told, 3) for told in (SEVEN, FOURS)]:
            bar = net_or_bar(table)[1]
            if bar[0] in ("seven", "fours"):
                word, steps, names = opposite_bar(table, bar)
                self.assertEqual({word, bar[0]}, {"seven", "fours"})
                self.assertEqual([line for _, line in steps], [line for _, line in bar[1]])
                self.assertTrue(all({one, other} == {"out", "join"} for (one, _), (other, _) in zip(steps, bar[1])))
                self.assertEqual(names, bar[2])
                self.assertIs(is_bar(opposite(table), (word, steps, names)), True)
                self.assertEqual(opposite_bar(opposite(table), (word, steps, names)), bar)

    def test_five_and_six(self):
        for word in ("five", "six"):
            for table in (TOLD[word], beside(NONE1, TOLD[word])):
                bar = net_or_bar(table)[1]
                self.check_error(Refused, {"reason": (word,)}, opposite_bar, table, bar)
            self.assertIsNotNone(net_of(opposite(TOLD[word])))

    def test_wrong(self):
        names = tuple(range(7))
        wrongs = [(InvalidTable, NOT_TABLES),
                  (InvalidOperation, [None, ("fours", (), names), ("seven", (("out", 0),), names), (), True, "seven",
                                      ("seven", (), names[::-1]), ["seven", (), names], FANO, ("six", (), names), []])]
        self.check_wrong(opposite_bar, (FANO, ("seven", (), names)), wrongs)
        wrongs[1] = (InvalidOperation, [None, ("fours", (), names), ("six", (), tuple(range(10)))])
        self.check_wrong(opposite_bar, (FIVE, ("five", (), tuple(range(10)))), wrongs)


class NotTrue(Case):
    """[12.8]"""

    def test_several_bars(self):
        found = [(word, line) for word, line in itertools.product(("out", "join"), range(8))
                 if word_of(lesser(LONGER, (word, line))) == "seven"]
        self.assertGreater(len(found), 1)

    def test_six_lines(self):
        count = 0
        for table in every_table(5):
            # By leaving the last line out each table of six lines leads to one of five, in which lots are alike that
            # differ by a sum: so one takes lots of lines of a tree. Or the last line is in no sum.
            wider = [widened(table, lot) for lot in subsets(tree_of(table))] + [lengthened(table, ())]
            for more in wider:
                self.assertEqual(net_or_bar(more)[0], "net")
                count += 1
        self.assertEqual(count, 2825)

    def test_both_lesser_ones(self):
        self.assertIsNone(net_of(FANO))
        for line in range(7):
            self.assertIsNotNone(net_of(lesser(FANO, ("out", line))))
            self.assertIsNotNone(net_of(lesser(FANO, ("join", line))))

    def test_more_steps_than_needed(self):
        table = beside(FIVE, FANO)
        short = (("out", 10),) * 7
        longer = (("out", 0),) * 10
        self.assertIs(is_bar(table, ("five", short, tuple(range(10)))), True)
        self.assertIs(is_bar(table, ("seven", longer, tuple(range(7)))), True)
        for steps in (short, longer):
            self.assertIs(are_least_steps(table, steps), True)
