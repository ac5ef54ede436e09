"""Stage 15: signs."""

import itertools
import random
from fractions import Fraction

from ringtables.errors import InvalidLot, InvalidNet, InvalidOperation, InvalidSigns, InvalidTable, TooMany
from ringtables.main.bars import told_table
from ringtables.main.found import net_of
from ringtables.net.nets import Net, net_beside, table_of
from ringtables.sign.signs import are_right_signs, are_signs, determinant, is_right_or_lot, is_signs_or_bar, is_split
from ringtables.sign.signs import is_turns_between, net_signs, opposite_signs, right_or_lot, sign_count, signs_or_bar
from ringtables.sign.signs import split_of, turned_signs, turns_between
from ringtables.table.lesser import behind, lengthened, lesser, widened
from ringtables.table.parts import beside, parts
from ringtables.table.sides import is_even
from ringtables.table.tables import Table, opposite, relined
from ringtables.table.trees import is_tree
from tests.support import ALL1, BOTH, FANO, NONE1, NONE24, NOT_NETS, NOT_TABLES, ROUNDS, SPLIT, STARS, STRANGE, WHEEL
from tests.support import Case, cuts_by, hanging_net, is_net_by, not_lots, picked_nets, picked_tables, small_tables
from tests.support import subsets, table_sums, unlike_net, whole_net

CHANCE = random.Random(51)
FOURS = opposite(FANO)
SIX = told_table("six")
TEN = Table(10, ((0, 5, 6, 9), (1, 5, 6, 7), (2, 6, 7, 8), (3, 7, 8, 9), (4, 5, 8, 9)))
ONES = ((1, 0, 1, 0, 1, 0), (0, 1, 1, 0, 0, 1), (0, 0, 0, 1, 1, 1))
RIGHT = net_signs(WHEEL)
NETS = [hanging_net(CHANCE, 5, 8) for _ in range(12)] + picked_nets(52, 15, 5, 8) + [WHEEL]
EIGHTS = [widened(FANO, (0, 1)), widened(FANO, ()), lengthened(FANO, (1, 3)), widened(FOURS, (2,)),
          lengthened(FOURS, (0,))]
TABLES = (small_tables(3) + picked_tables(53, 30, 4, 7) + [table_of(net) for net in NETS] + EIGHTS
          + [FANO, FOURS, BOTH, SPLIT])
SIXTEEN = Table(16, tuple((k, k + 1, k + 2) for k in range(0, 14, 2)) + ((0, 15),))
SEVENTEEN = Table(17, ((0, 1, 16), (2, 16)))
MANY = {"limit": 16}


def determinant_by(rows):
    rows = [[Fraction(number) for number in row] for row in rows]
    total = Fraction(1)
    for k in range(len(rows)):
        found = [j for j in range(k, len(rows)) if rows[j][k]]
        if not found:
            return 0
        if found[0] != k:
            rows[k], rows[found[0]] = rows[found[0]], rows[k]
            total = -total
        total *= rows[k][k]
        for j in range(k + 1, len(rows)):
            times = rows[j][k] / rows[k][k]
            rows[j] = [one - times * other for one, other in zip(rows[j], rows[k])]
    return int(total)


def determinants(table, signs):
    """For each lot of size-many lines its determinant."""
    return {lot: determinant_by([[row[line] for line in lot] for row in signs])
            for lot in itertools.combinations(range(table.many), table.size)}


def are_right_by(table, signs):
    return set(determinants(table, signs).values()) <= {-1, 0, 1}


def every_signs(table):
    """All signs of the table."""
    rows = []
    for lot in table.form:
        told = itertools.product((1, -1), repeat=len(lot) - 1)
        rows.append([tuple(dict(zip(lot, (1,) + numbers)).get(line, 0) for line in range(table.many))
                     for numbers in told])
    return list(itertools.product(*rows))


def some_signs(table):
    return tuple(CHANCE.choice(row) for row in [[signs[0] for signs in every_signs(Table(table.many, (lot,)))]
                                                for lot in table.form])


def splits_by(table, signs, pick):
    found = []
    for numbers in itertools.product((1, -1), repeat=len(pick)):
        sums = [sum(number * signs[k][line] for k, number in zip(pick, numbers)) for line in range(table.many)]
        if set(sums) <= {-1, 0, 1}:
            found.append(numbers)
    return found


def turned_by(table, signs, lot):
    found = []
    for told, row in zip(table.form, signs):
        row = [-number if line in lot else number for line, number in enumerate(row)]
        found.append(tuple(number * row[told[0]] for number in row))
    return tuple(found)


class Signs(Case):
    """[0.14]"""

    def test_are_signs(self):
        for table in small_tables(3) + [ROUNDS, BOTH]:
            right = every_signs(table)
            for signs in right[:64]:
                self.assertIs(are_signs(table, signs), True)
                for k, row in enumerate(signs):
                    for line in range(table.many):
                        for number in (-1, 0, 1, 2, True, False, None, "1"):
                            other = row[:line] + (number,) + row[line + 1:]
                            value = signs[:k] + (other,) + signs[k + 1:]
                            told = value in right and not isinstance(number, bool)
                            self.assertIs(are_signs(table, value), told)

    def test_judge_takes_nothing_else(self):
        self.check_takes(are_signs, (ROUNDS,), ONES)
        self.check_takes(are_right_signs, (ROUNDS,), RIGHT)
        for judge in (are_signs, are_right_signs):
            for table in (ROUNDS, FANO, SIXTEEN):
                self.check_never(judge, (table,))
            # Signs of no row.
            for table in (NONE1, Table(16, ())):
                for value in STRANGE:
                    self.assertIs(judge(table, value), isinstance(value, tuple) and value == ())
            self.assertIs(judge(ALL1, ((1,),)), True)
            for value in ((), ((-1,),), ((0,),), ((True,),), ((1, 0),), [(1,)], ([1],), ((1,), (1,))):
                self.assertIs(judge(ALL1, value), False)

    def test_right(self):
        for table in small_tables(3) + [ROUNDS, BOTH, SPLIT, FANO] + picked_tables(54, 8, 4, 6):
            for signs in every_signs(table)[:512]:
                self.assertIs(are_right_signs(table, signs), are_right_by(table, signs))
        for table in picked_tables(55, 20, 7, 9):
            signs = some_signs(table)
            self.assertIs(are_right_signs(table, signs), are_right_by(table, signs))


class Determinants(Case):
    """[15.1]"""

    def test_odd_exactly_if_others_are_a_tree(self):
        for table in TABLES:
            signs = some_signs(table)
            for lot, number in determinants(table, signs).items():
                others = tuple(line for line in range(table.many) if line not in lot)
                self.assertEqual(number % 2 == 1, is_tree(table, others))

    def test_determinant(self):
        chance = random.Random(50)
        self.assertEqual([determinant([]), determinant([[3]]), determinant([[0, 1], [1, 0]])], [1, 3, -1])
        for _ in range(200):
            many = chance.randint(1, 6)
            rows = [[chance.choice((-2, -1, 0, 0, 1, 2)) for _ in range(many)] for _ in range(many)]
            before = repr(rows)
            self.assertEqual(determinant(rows), determinant_by(rows))
            self.assertEqual(repr(rows), before)

    def test_square(self):
        # [0.19]: the determinant of the rows times themselves, and the number of trees.
        for table in TABLES:
            lots = itertools.combinations(range(table.many), table.many - table.size)
            trees = sum(is_tree(table, lot) for lot in lots)
            for signs in [some_signs(table) for _ in range(3)]:
                square = [[sum(a * b for a, b in zip(row, other)) for other in signs] for row in signs]
                number = determinant_by(square)
                self.assertEqual(number, sum(told ** 2 for told in determinants(table, signs).values()))
                self.assertGreaterEqual(number, trees)
                self.assertEqual(number == trees, are_right_signs(table, signs))

    def test_right_or_lot(self):
        wrong = 0
        for table in TABLES + [STARS, SIX]:
            for signs in [some_signs(table) for _ in range(3)]:
                value = right_or_lot(table, signs)
                self.assertIs(is_right_or_lot(table, signs, value), True)
                if value != ("right",):
                    word, lot = value
                    self.assertEqual((word, len(lot)), ("lot", table.size))
                    number = determinant_by([[row[line] for line in lot] for row in signs])
                    self.assertGreater(abs(number), 1)
                    wrong += 1
                else:
                    self.assertTrue(are_right_by(table, signs))
        self.assertGreater(wrong, 20)

    def test_right_or_lot_judged(self):
        for table, signs in [(ROUNDS, ONES), (ROUNDS, RIGHT), (FANO, some_signs(FANO)), (Table(2, ()), ())]:
            told = determinants(table, signs)
            values = [("lot", lot) for lot in subsets(range(table.many))] + [("lot", (0, table.many)), ("right",)]
            self.check_judged(is_right_or_lot, (table, signs), values, lambda value: (
                are_right_by(table, signs) if value == ("right",)
                else len(value[1]) == table.size and abs(told.get(value[1], 0)) > 1))
        self.check_takes(is_right_or_lot, (ROUNDS, ONES), ("lot", (2, 4, 5)))
        self.check_takes(is_right_or_lot, (ROUNDS, RIGHT), ("right",))
        for signs in (ONES, RIGHT):
            self.check_never(is_right_or_lot, (ROUNDS, signs))
            for value in (("right", ()), "right", ("lot",), (True,), ("lot", (0, 1, 2), ()), ("lot", [2, 4, 5])):
                self.assertIs(is_right_or_lot(ROUNDS, signs, value), False)


class Splits(Case):
    """[15.2]"""

    def test_splits(self):
        for table in TABLES[::2]:
            for signs in [some_signs(table) for _ in range(2)]:
                every = True
                for pick in subsets(range(table.size)):
                    told = splits_by(table, signs, pick)
                    value = split_of(table, signs, pick)
                    self.assertTrue(value in told if told else value is None)
                    self.assertIs(is_split(table, signs, pick, value), True)
                    self.assertIs(is_split(table, signs, pick, None), not told)
                    every = every and bool(told)
                self.assertEqual(every, are_right_signs(table, signs))

    def test_columns(self):
        for table in TABLES[::3]:
            signs = some_signs(table)
            heads = [lot[0] for lot in table.form]
            columns = [[row[line] for row in signs] for line in range(table.many) if line not in heads]
            every = all(any(set(sum(number * column[k] for number, column in zip(numbers, pick))
                                for k in range(table.size)) <= {-1, 0, 1}
                            for numbers in itertools.product((1, -1), repeat=len(pick)))
                        for count in range(1, len(columns) + 1) for pick in itertools.combinations(columns, count))
            self.assertEqual(every, are_right_signs(table, signs))

    def test_judged(self):
        for table, signs in [(ROUNDS, ONES), (ROUNDS, RIGHT), (FANO, some_signs(FANO)), (BOTH, some_signs(BOTH))]:
            for pick in subsets(range(table.size)):
                told = splits_by(table, signs, pick)
                values = [numbers for k in range(table.size + 1) for numbers in itertools.product((-1, 0, 1), repeat=k)]
                taken = self.check_judged(is_split, (table, signs, pick), values, lambda value: value in told)
                self.assertEqual(taken, len(told))
        self.check_takes(is_split, (ROUNDS, RIGHT, (0, 2)), split_of(ROUNDS, RIGHT, (0, 2)))
        self.check_takes(is_split, (ROUNDS, RIGHT, ()), ())
        self.check_never(is_split, (ROUNDS, RIGHT, (0, 1)))
        self.check_never(is_split, (ROUNDS, ONES, (0, 1, 2)), none=True)
        self.assertEqual(split_of(ROUNDS, RIGHT, ()), ())
        self.assertEqual(split_of(Table(3, ()), (), ()), ())

    def test_great(self):
        # All rows of tables with 16 lines.
        for size in (1, 4, 8, 11, 12, 13, 14, 15, 16):
            table = Table(16, tuple((k,) + tuple(range(max(size, k + 1), 16)) for k in range(size)))
            self.assertEqual(table.size, size)
            signs = some_signs(table)
            pick = tuple(range(size))
            self.assertIs(is_split(table, signs, pick, split_of(table, signs, pick)), True)
            self.assertIs(is_right_or_lot(table, signs, right_or_lot(table, signs)), True)


class Turned(Case):
    """[15.3]"""

    def test_turned(self):
        for table in TABLES[::2]:
            signs = some_signs(table)
            for lot in subsets(range(table.many))[::3]:
                told = turned_signs(table, signs, lot)
                self.assertEqual(told, turned_by(table, signs, lot))
                self.assertEqual(are_right_signs(table, told), are_right_signs(table, signs))
                back = turns_between(table, signs, told)
                self.assertEqual(turned_by(table, signs, back), told)
                self.assertIs(is_turns_between(table, signs, told, back), True)
                self.assertIs(is_turns_between(table, signs, told, lot), True)
                self.assertIs(is_turns_between(table, signs, told, None), False)

    def test_whole_parts_do_nothing(self):
        for table in TABLES[::4]:
            signs = some_signs(table)
            told = [lot for lot in subsets(range(table.many)) if turned_signs(table, signs, lot) == signs]
            whole = [tuple(sorted(line for lot in some for line in lot)) for some in subsets(parts(table))]
            self.assertEqual(sorted(told), sorted(whole))

    def test_count(self):
        for table in [table for table in TABLES if sum(len(lot) - 1 for lot in table.form) < 11] + [FANO, FOURS]:
            right = [signs for signs in every_signs(table) if are_right_signs(table, signs)]
            self.assertEqual(sign_count(table), len(right))
            self.assertIn(len(right), (0, 2 ** (table.many - len(parts(table)))))
            for one, other in itertools.product(right[:3], right):
                self.assertIs(is_turns_between(table, one, other, turns_between(table, one, other)), True)
                self.assertIsNotNone(turns_between(table, one, other))

    def test_judged(self):
        for table, one, other in [(ROUNDS, RIGHT, ONES), (ROUNDS, ONES, turned_signs(ROUNDS, ONES, (0, 2, 5))),
                                  (ROUNDS, RIGHT, RIGHT), (Table(3, ((0, 1),)), ((1, 1, 0),), ((1, -1, 0),))]:
            lots = subsets(range(table.many)) + [(table.many,), (0, 0)]
            taken = self.check_judged(is_turns_between, (table, one, other), lots, lambda value: (
                value in lots[:-2] and turned_by(table, one, value) == other))
            self.assertEqual(taken == 0, turns_between(table, one, other) is None)
            self.assertIs(is_turns_between(table, one, other, None), taken == 0)
        self.check_takes(is_turns_between, (ROUNDS, ONES, turned_signs(ROUNDS, ONES, (0, 2))), (0, 2))
        self.check_takes(is_turns_between, (ROUNDS, ONES, turned_signs(ROUNDS, ONES, (0, 2))), (1, 3, 4, 5))
        self.check_never(is_turns_between, (ROUNDS, RIGHT, ONES), none=True)
        for value in STRANGE:
            # Only () and all lines, and no other value of these kinds, turn nothing.
            self.assertIs(is_turns_between(ROUNDS, ONES, ONES, value), isinstance(value, tuple) and value == ())
        self.assertIs(is_turns_between(ROUNDS, ONES, ONES, tuple(range(6))), True)


class EitherOr(Case):
    """[0.19], [15.4], [15.7]"""

    def test_either_or(self):
        barred = 0
        for table in TABLES + picked_tables(56, 30, 8, 8):
            value = signs_or_bar(table)
            self.assertIs(is_signs_or_bar(table, value), True)
            if value[0] == "signs":
                self.assertTrue(are_right_by(table, value[1]))
                self.assertGreater(sign_count(table), 0)
            else:
                self.assertIn(value[0], ("seven", "fours"))
                self.assertEqual(behind(table, value[1]).many, 7)
                self.assertEqual(sign_count(table), 0)
                barred += 1
            # In eight lines or fewer just the nets' tables have right signs.
            if table.many < 9:
                self.assertEqual(value[0] == "signs", is_net_by(table))
        self.assertGreater(barred, 5)

    def test_net_exactly_if_cuts_are_even(self):
        for table in [STARS, SIX, TEN, opposite(TEN), ROUNDS, SPLIT, opposite(STARS), opposite(SIX)]:
            self.assertGreater(sign_count(table), 0)
            even = all(is_even(table, cut) for cut in cuts_by(table))
            self.assertEqual(net_of(table) is not None, even)
        self.assertTrue(all(is_even(FANO, cut) for cut in cuts_by(FANO)))

    def test_nets_and_opposites(self):
        for net in picked_nets(57, 40, 10, 16) + [hanging_net(CHANCE, 9, 16) for _ in range(20)]:
            for table in (table_of(net), opposite(table_of(net))):
                word, signs = signs_or_bar(table)
                self.assertEqual(word, "signs")
                self.assertIs(are_right_signs(table, signs), True)
                self.assertEqual(sign_count(table), 2 ** (table.many - len(parts(table))))

    def test_grown(self):
        for told in (FANO, FOURS):
            for _ in range(8):
                table = told
                while table.many < 16:
                    lot = tuple(k for k in range(table.many) if CHANCE.random() < 0.4)
                    pick = tuple(k for k in range(table.size) if CHANCE.random() < 0.4)
                    table = widened(table, lot) if CHANCE.random() < 0.5 else lengthened(table, pick)
                table = relined(table, tuple(CHANCE.sample(range(16), 16)))
                value = signs_or_bar(table)
                self.assertIn(value[0], ("seven", "fours"))
                self.assertIs(is_signs_or_bar(table, value), True)
                self.assertEqual(sign_count(table), 0)

    def test_judged(self):
        names = tuple(range(7))
        self.check_takes(is_signs_or_bar, (FANO,), ("seven", (), names))
        self.check_takes(is_signs_or_bar, (ROUNDS,), ("signs", RIGHT))
        self.check_takes(is_signs_or_bar, (Table(2, ()),), ("signs", ()))
        self.assertIs(is_signs_or_bar(ROUNDS, ("signs", ONES)), False)
        for word in ("five", "six"):
            table = told_table(word)
            self.assertIs(is_signs_or_bar(table, (word, (), tuple(range(table.many)))), False)
        for table in (FANO, ROUNDS, SIXTEEN, STARS):
            self.check_never(is_signs_or_bar, (table,))
            for value in STRANGE:
                self.assertIs(is_signs_or_bar(table, ("signs", value)), False)
                self.assertIs(is_signs_or_bar(table, ("bar", value)), False)
        self.assertIs(is_signs_or_bar(FANO, ("bar", ("seven", (), names))), False)

    def test_lesser_ones_have_right_signs(self):
        for table in (STARS, SIX, TEN):
            for word, line in itertools.product(("out", "join"), range(table.many)):
                self.assertGreater(sign_count(lesser(table, (word, line))), 0)


class Opposites(Case):
    """[15.5]"""

    def test_opposite_signs(self):
        for table in TABLES + [STARS, SIX, TEN, SIXTEEN, ALL1, NONE1]:
            value = signs_or_bar(table)
            if value[0] == "signs":
                lots = [tuple(k for k in range(table.many) if CHANCE.random() < 0.5) for _ in range(3)]
                for signs in [value[1]] + [turned_signs(table, value[1], lot) for lot in lots]:
                    told = opposite_signs(table, signs)
                    self.assertIs(are_right_signs(opposite(table), told), True)
                    for row, other in itertools.product(signs, told):
                        self.assertEqual(sum(a * b for a, b in zip(row, other)), 0)
                    self.assertEqual(opposite_signs(opposite(table), told), signs)

    def test_just_one(self):
        for table in [ROUNDS, BOTH] + picked_tables(58, 6, 4, 5):
            signs = signs_or_bar(table)[1]
            right = [told for told in every_signs(opposite(table))
                     if all(sum(a * b for a, b in zip(row, other)) == 0 for row in signs for other in told)]
            self.assertEqual(right, [opposite_signs(table, signs)])

    def test_not_right(self):
        self.check_error(InvalidOperation, {}, opposite_signs, ROUNDS, ONES)
        self.check_error(InvalidOperation, {}, opposite_signs, FANO, some_signs(FANO))


class OfNets(Case):
    """[15.6]"""

    def walked(self, net, lot):
        """The numbers of a ring by going round along its head."""
        low, high = net.lines[lot[0]]
        numbers, knot, left = {lot[0]: 1}, high, set(lot[1:])
        while knot != low:
            line = min(line for line in left if knot in net.lines[line])
            numbers[line] = 1 if net.lines[line][0] == knot else -1
            knot = sum(net.lines[line]) - knot
            left.discard(line)
        return tuple(numbers.get(line, 0) for line in range(len(net.lines)))

    def test_net_signs(self):
        for net in NETS + [unlike_net(CHANCE, net) for net in NETS]:
            table = table_of(net)
            signs = net_signs(net)
            self.assertEqual(signs, tuple(self.walked(net, lot) for lot in table.form))
            self.assertIs(are_right_signs(table, signs), True)

    def test_edges(self):
        self.assertEqual(net_signs(Net(1, ((0, 0),))), ((1,),))
        self.assertEqual(net_signs(Net(2, ((0, 1),))), ())
        self.assertEqual(net_signs(Net(2, ((0, 1), (0, 1)))), ((1, -1),))
        self.assertEqual(net_signs(Net(3, ((1, 2), (0, 2), (0, 1), (1, 1)))), ((1, -1, 1, 0), (0, 0, 0, 1)))

    def test_great(self):
        # Nets of more than 16 lines have signs, too.
        for net in (whole_net(7), Net(25, tuple((k, k + 1) for k in range(24))), Net(2, ((0, 1),) * 24)):
            signs = net_signs(net)
            table = table_of(net)
            self.assertEqual(len(signs), table.size)
            for lot, row in zip(table.form, signs):
                self.assertEqual(tuple(line for line, number in enumerate(row) if number), lot)
                self.assertEqual(row[lot[0]], 1)
                for knot in range(net.knots):
                    ends = [number if net.lines[line][0] == knot else -number
                            for line, number in enumerate(row) if knot in net.lines[line]]
                    self.assertEqual(sum(ends), 0)

    def test_wrong(self):
        self.check_wrong(net_signs, (WHEEL,), [(InvalidNet, NOT_NETS)])


class Great(Case):
    """Tables of 16 lines, and of 17."""

    def test_sixteen(self):
        value = signs_or_bar(SIXTEEN)
        self.assertEqual(value[0], "signs")
        self.assertIs(are_right_signs(SIXTEEN, value[1]), True)
        self.assertEqual(sign_count(SIXTEEN), 2 ** (16 - len(parts(SIXTEEN))))
        self.assertEqual(sign_count(Table(16, ())), 1)
        self.assertEqual(sign_count(Table(16, tuple((k,) for k in range(16)))), 1)
        self.assertEqual(sign_count(beside(FANO, Table(9, ()))), 0)
        table = opposite(table_of(net_beside(whole_net(5), WHEEL)))
        self.assertEqual(sign_count(table), 2 ** 14)

    def test_seventeen(self):
        signs = ((1, 1) + (0,) * 13 + (0, 1), (0, 0, 1) + (0,) * 13 + (-1,))
        form = SEVENTEEN.form
        self.assertEqual(form, ((0, 1, 16), (2, 16)))
        calls = [(are_signs, (None,)), (are_right_signs, (signs,)), (signs_or_bar, ()), (is_signs_or_bar, (None,)),
                 (sign_count, ()), (split_of, (signs, (0,))), (is_split, (signs, (0,), None)),
                 (right_or_lot, (signs,)), (is_right_or_lot, (signs, None)), (turned_signs, (signs, (0,))),
                 (turns_between, (signs, signs)), (is_turns_between, (signs, signs, None)), (opposite_signs, (signs,))]
        for function, more in calls:
            self.check_error(TooMany, MANY, function, SEVENTEEN, *more)
        for function in (are_signs, signs_or_bar, sign_count):
            more = (None,) if function is are_signs else ()
            self.check_error(TooMany, MANY, function, NONE24, *more)
            self.check_error(TooMany, MANY, function, Table(17, ()), *more)
        # It is behind all other errors, ahead of the one that is told later.
        wrong = ((1, 1) + (0,) * 15, signs[1])
        for function, more in calls[5:]:
            self.check_error(InvalidSigns, {}, function, SEVENTEEN, wrong, *more[1:])
        for function, more in calls[5:7]:
            self.check_error(InvalidOperation, {}, function, SEVENTEEN, signs, (2,), *more[2:])
        self.check_error(InvalidLot, {}, turned_signs, SEVENTEEN, signs, (17,))
        self.check_error(InvalidSigns, {}, turns_between, SEVENTEEN, signs, wrong)
        self.check_error(InvalidSigns, {}, is_turns_between, SEVENTEEN, signs, wrong, None)
        table = beside(ROUNDS, Table(11, ()))
        self.check_error(TooMany, MANY, opposite_signs, table, tuple(row + (0,) * 11 for row in ONES))


class Wrong(Case):
    def test_wrong(self):
        tables = (InvalidTable, NOT_TABLES)
        rows = [list(ONES[0]), (True, 0, 1, 0, 1, 0), (-1, 0, 1, 0, 1, 0), (1, 0, 2, 0, 1, 0), (1, 0, 1, 0, 0, 0),
                (1, 1, 1, 0, 1, 0), (1, 0, 1, 0, 1), (1, 0, 1, 0, 1, 0, 0), (1, 0, None, 0, 1, 0),
                (1, False, 1, 0, 1, 0), (1, 0, 10 ** 60, 0, 1, 0), None, 1, ()]
        no_signs = [None, (), ONES[:2], ONES + ONES[:1], list(ONES), True, "signs", {}, FANO, ONES[::-1], 7]
        no_signs += [(row,) + ONES[1:] for row in rows]
        signs = (InvalidSigns, no_signs)
        for function in (signs_or_bar, sign_count):
            self.check_wrong(function, (ROUNDS,), [tables])
        bar = ("seven", (), tuple(range(7)))
        for judge, right in ((are_signs, ONES), (are_right_signs, RIGHT), (is_signs_or_bar, ("signs", RIGHT)),
                             (is_signs_or_bar, bar)):
            self.check_judge_wrong(judge, (ROUNDS,), right, [tables])
        picks = (InvalidOperation, not_lots(3) + [(1, 0), (0, 1, 2, 3)])
        self.check_wrong(split_of, (ROUNDS, ONES, (0, 1)), [tables, signs, picks])
        self.check_judge_wrong(is_split, (ROUNDS, ONES, (0, 1)), (1, -1), [tables, signs, picks])
        for function in (right_or_lot, opposite_signs):
            self.check_wrong(function, (ROUNDS, RIGHT), [tables, signs])
        for right in (("right",), ("lot", (2, 4, 5))):
            self.check_judge_wrong(is_right_or_lot, (ROUNDS, RIGHT), right, [tables, signs])
        self.check_wrong(turned_signs, (ROUNDS, ONES, (0,)), [tables, signs, (InvalidLot, not_lots(6))])
        self.check_wrong(turns_between, (ROUNDS, ONES, RIGHT), [tables, signs, signs])
        self.check_judge_wrong(is_turns_between, (ROUNDS, ONES, RIGHT), (0, 2), [tables, signs, signs])
        self.check_wrong(opposite_signs, (ROUNDS, ONES), [tables, signs])


class NotTrue(Case):
    """[15.8]"""

    def test_each_two_rows(self):
        for pick in itertools.combinations(range(3), 2):
            self.assertIsNotNone(split_of(ROUNDS, ONES, pick))
        self.assertIs(are_right_signs(ROUNDS, ONES), False)

    def test_right_signs_and_no_net(self):
        self.assertEqual(signs_or_bar(TEN)[0], "signs")
        self.assertEqual((net_of(TEN), net_of(opposite(TEN))), (None, None))
        self.assertEqual(len(table_sums(TEN)), 32)
