"""Stage 4: lesser tables."""

import itertools

from ringtables.errors import InvalidLot, InvalidOperation, InvalidTable, Refused, TooMany
from ringtables.table.lesser import are_tidy, behind, gathered, is_steps_for, is_tidy, joined_by, lengthened, lesser
from ringtables.table.lesser import lesser_by, stays, steps_for, steps_to, tidy, widened, without
from ringtables.table.rings import is_cut, is_ring
from ringtables.table.tables import Table, opposite
from tests.support import BOTH, FANO, NOT_TABLES, ROUNDS, Case, add, every_table, lesser_sums, not_lots, picked_tables
from tests.support import rings_of, small_tables, subsets, table_by, table_sums

MANY = tuple(range(24))
SINGLES = tuple((k,) for k in range(24))
NONE24 = Table(24, ())
ALL24 = Table(24, SINGLES)
EVEN24 = Table(24, tuple((k, k + 1) for k in range(23)))
SINGLE = Table(1, ())
TABLES = small_tables(3) + picked_tables(10, 8, 4, 5) + [BOTH]
NOTHING = {"reason": ("nothing",)}
OTHER = {"out": "join", "join": "out"}
NOT_STEPS = [("out", 6), ("cut", 0), None, ["out", 0], True, 0, "out", "", (), {}, ("out",), ("out", 0, 0),
             ("out", -1), ("out", True), ("join", False), ("out", "0"), ("out", None), ("out", (0,)), (0, "out"),
             ("Out", 0), (None, 0), (True, 1), (("out", 0),), ("join", 10 ** 60), FANO, (FANO, 0), ("out", FANO)]
NOT_ROWS = [[("out", 0)], (("out", 6),), None, ("out", 0), True, 0, "out", {}, (("out", 5), ("join", 5)),
            (("out", 0), None), (("out", 0), ["out", 0]), (("out", 0),) * 6, (("join", 0),) * 7, (("out", True),),
            FANO, (("out", 0), ("cut", 0)), ((),), ("out",), (("join", 0, 0),)] + [(step,) for step in NOT_STEPS]


def every_steps(many, most):
    """All tuples of at most so many steps of a table with so many lines, leaving a line."""
    found = [()]
    rows = [()]
    for k in range(min(most, many - 1)):
        rows = [row + ((word, line),) for row in rows for word in ("out", "join") for line in range(many - k)]
        found += rows
    return found


def taken_by(many, steps):
    """(outs, joins, stay) by steps that fit."""
    stay, taken = list(range(many)), {"out": set(), "join": set()}
    for word, number in steps:
        taken[word].add(stay[number])
        stay = stay[:number] + stay[number + 1:]
    return tuple(sorted(taken["out"])), tuple(sorted(taken["join"])), tuple(stay)


def pairs_of(many):
    """All pairs (outs, joins) that leave a line."""
    found = []
    for words in itertools.product(("stay", "out", "join"), repeat=many):
        if "stay" in words:
            found.append(tuple(tuple(k for k, word in enumerate(words) if word == told) for told in ("out", "join")))
    return found


def is_tidy_by(table, outs, joins):
    in_joins = any(set(ring) <= set(joins) for ring in rings_of(table_sums(table)))
    return not in_joins and not any(set(cut) <= set(outs) for cut in rings_of(table_sums(opposite(table))))


class Steps(Case):
    """[4.1]"""

    def test_lesser(self):
        for table in TABLES:
            if table.many == 1:
                continue
            for line in range(table.many):
                out, joined = lesser(table, ("out", line)), lesser(table, ("join", line))
                self.assertEqual(table_sums(out), lesser_sums(table, (line,), ()))
                self.assertEqual(table_sums(joined), lesser_sums(table, (), (line,)))
                self.assertEqual((out.many, joined.many), (table.many - 1, table.many - 1))
                self.assertEqual((out.lots, joined.lots), (out.form, joined.form))

    def test_great(self):
        self.assertEqual(lesser(ALL24, ("out", 0)), Table(23, SINGLES[:23]))
        self.assertEqual(lesser(NONE24, ("join", 23)), Table(23, ()))
        self.assertEqual(behind(EVEN24, (("join", 0),) * 23), Table(1, ((0,),)))
        self.assertEqual(behind(EVEN24, (("out", 0),) * 23), Table(1, ()))
        self.assertEqual(behind(FANO, ()), FANO)

    def test_wrong(self):
        self.check_wrong(lesser, (ROUNDS, ("out", 5)), [(InvalidTable, NOT_TABLES), (InvalidOperation, NOT_STEPS)])
        for step in (("out", 0), ("join", 0)):
            self.check_error(Refused, NOTHING, lesser, SINGLE, step)
            self.check_error(Refused, NOTHING, lesser, Table(1, ((0,),)), step)
            self.check_error(InvalidOperation, {}, lesser, SINGLE, (step[0], 1))
        self.check_wrong(lesser, (SINGLE, ("out", 0)), [(InvalidTable, NOT_TABLES), (InvalidOperation, NOT_STEPS)])

    def test_wrong_rows(self):
        for function in (behind, stays, gathered):
            wrongs = [(InvalidTable, NOT_TABLES), (InvalidOperation, NOT_ROWS)]
            self.check_wrong(function, (ROUNDS, (("out", 5),)), wrongs)
            # Steps that leave no line are no steps: Refused has no place here.
            self.check_error(InvalidOperation, {}, function, SINGLE, (("out", 0),))
            self.check_error(InvalidOperation, {}, function, Table(2, ()), (("out", 0), ("join", 0)))
            self.check_error(InvalidOperation, {}, function, Table(2, ()), (("out", 1), ("join", 1)))


class Sequences(Case):
    """[4.2]"""

    def test_steps(self):
        for table in picked_tables(11, 4, 4, 4) + [BOTH]:
            for steps in every_steps(table.many, 3):
                outs, joins, stay = taken_by(table.many, steps)
                self.assertEqual(gathered(table, steps), (outs, joins))
                self.assertEqual(stays(table, steps), stay)
                other = behind(table, steps)
                stepped = table
                for step in steps:
                    stepped = lesser(stepped, step)
                self.assertEqual(other, stepped)
                self.assertEqual(other.lots, other.form)
                self.assertEqual(table_sums(other), lesser_sums(table, outs, joins))

    def test_all_at_once(self):
        for table in TABLES:
            for outs, joins in pairs_of(table.many):
                other = lesser_by(table, outs, joins)
                self.assertEqual(table_sums(other), lesser_sums(table, outs, joins))
                self.assertEqual(other.lots, other.form)
                steps = steps_for(table, outs, joins)
                self.assertIs(is_steps_for(table, outs, joins, steps), True)
                self.assertEqual(behind(table, steps), other)
                if not joins:
                    self.assertEqual(without(table, outs), other)
                if not outs:
                    self.assertEqual(joined_by(table, joins), other)

    def test_is_steps_for(self):
        for table in (Table(3, ((0, 1),)), Table(4, ((0, 1), (1, 2, 3)))):
            told = [(steps, taken_by(table.many, steps)[:2]) for steps in every_steps(table.many, 3)]
            right = dict(told)
            for outs, joins in pairs_of(table.many):
                taken = self.check_judged(is_steps_for, (table, outs, joins), [steps for steps, _ in told],
                                          lambda value: right[value] == (outs, joins))
                self.assertEqual(taken, [1, 1, 2, 6][len(outs + joins)])
        goods = (BOTH, (1,), (2,))
        self.check_never(is_steps_for, goods)
        self.check_takes(is_steps_for, goods, (("join", 2), ("out", 1)))
        self.check_takes(is_steps_for, goods, (("out", 1), ("join", 1)))
        for value in ((("out", 1), ("join", 2)), (("out", 1),), (("join", 2), ("out", 2)), (), (("out", 1), ("out", 1)),
                      (("out", 1), ("join", 9)), (("join", 2), ("out", 1), ("out", 0))):
            self.assertIs(is_steps_for(*goods, value), False)
        self.assertIs(is_steps_for(BOTH, (), (), ()), True)
        self.assertIs(is_steps_for(SINGLE, (), (), (("out", 0),)), False)

    def test_great(self):
        self.assertEqual(lesser_by(EVEN24, MANY[:12], MANY[12:23]), Table(1, ((0,),)))
        self.assertEqual(without(ALL24, MANY[1:]), Table(1, ((0,),)))
        self.assertEqual(joined_by(NONE24, MANY[:23]), Table(1, ()))
        steps = steps_for(EVEN24, MANY[:12], MANY[12:23])
        self.assertIs(is_steps_for(EVEN24, MANY[:12], MANY[12:23], steps), True)
        self.assertEqual((without(FANO, ()), joined_by(FANO, ()), lesser_by(FANO, (), ())), (FANO, FANO, FANO))

    def test_wrong(self):
        lots = (InvalidLot, not_lots(6))
        for function in (without, joined_by):
            self.check_wrong(function, (ROUNDS, (0,)), [(InvalidTable, NOT_TABLES), lots])
            for table in (ROUNDS, SINGLE, ALL24):
                self.check_error(Refused, NOTHING, function, table, tuple(range(table.many)))
            self.check_wrong(function, (ROUNDS, (0, 1, 2, 3, 4, 5)), [(InvalidTable, NOT_TABLES), lots])
        for function, more in ((lesser_by, ()), (steps_for, ()), (is_steps_for, (None,)), (are_tidy, ()), (tidy, ()),
                               (is_tidy, (None,))):
            wrongs = [(InvalidTable, NOT_TABLES), lots, lots]
            self.check_wrong(function, (ROUNDS, (0, 1), (2,)) + more, wrongs)
            self.check_error(InvalidOperation, {}, function, ROUNDS, (0, 1), (1, 2), *more)
            self.check_wrong(function, (ROUNDS, (0, 1), (1,)) + more, wrongs)
            # A common line comes before nothing left.
            self.check_error(InvalidOperation, {}, function, ROUNDS, (0, 1, 2, 3), (3, 4, 5), *more)
            self.check_error(InvalidOperation, {}, function, ROUNDS, (0, 1, 2), (2, 3, 4), *more)
            self.check_error(Refused, NOTHING, function, ROUNDS, (0, 1, 2), (3, 4, 5), *more)
            self.check_error(Refused, NOTHING, function, SINGLE, (), (0,), *more)
            self.check_wrong(function, (ROUNDS, (0, 1, 2, 3, 4), (5,)) + more, wrongs)


class Opposites(Case):
    """[4.3]"""

    def test_opposite(self):
        for table in TABLES:
            for outs, joins in pairs_of(table.many):
                self.assertEqual(opposite(lesser_by(table, outs, joins)), lesser_by(opposite(table), joins, outs))
        for steps in every_steps(5, 2):
            turned = tuple((OTHER[word], line) for word, line in steps)
            self.assertEqual(opposite(behind(BOTH, steps)), behind(opposite(BOTH), turned))


class Sizes(Case):
    """[4.4]"""

    def test_sizes(self):
        for table in TABLES:
            for line in range(table.many if table.many > 1 else 0):
                out, joined = lesser(table, ("out", line)), lesser(table, ("join", line))
                self.assertEqual(table.size - out.size, 0 if is_cut(table, (line,)) else 1)
                self.assertEqual(table.size - joined.size, 1 if is_ring(table, (line,)) else 0)
                if is_cut(table, (line,)) or is_ring(table, (line,)):
                    self.assertEqual(out, joined)


class Tidy(Case):
    """[4.5]"""

    def test_tidy(self):
        for table in TABLES:
            for outs, joins in pairs_of(table.many):
                self.assertIs(are_tidy(table, outs, joins), is_tidy_by(table, outs, joins))
                fresh, others = tidy(table, outs, joins)
                self.assertEqual(sorted(fresh + others), sorted(outs + joins))
                self.assertTrue(is_tidy_by(table, fresh, others))
                self.assertEqual(lesser_by(table, fresh, others), lesser_by(table, outs, joins))
                self.assertIs(is_tidy(table, outs, joins, (fresh, others)), True)
                if is_tidy_by(table, outs, joins):
                    self.assertEqual(lesser_by(table, outs, joins).size, table.size - len(outs))

    def test_is_tidy(self):
        for table in small_tables(3) + picked_tables(12, 3, 4, 4):
            values = list(itertools.product(subsets(range(table.many)), repeat=2))
            for outs, joins in pairs_of(table.many):
                self.check_judged(is_tidy, (table, outs, joins), values, lambda value: (
                    sorted(value[0] + value[1]) == sorted(outs + joins) and is_tidy_by(table, *value)
                    and lesser_sums(table, *value) == lesser_sums(table, outs, joins)))
        goods = (BOTH, (), (0, 1))
        self.check_never(is_tidy, goods)
        self.check_takes(is_tidy, goods, ((1,), (0,)))
        self.check_takes(is_tidy, goods, ((0,), (1,)))
        for value in (((), (0, 1)), ((0, 1), ()), ((1,), ()), ((1,), (0, 2)), ((1,), (0,), ()), ((1,), (0, 1))):
            self.assertIs(is_tidy(*goods, value), False)
        self.assertIs(is_tidy(SINGLE, (), (), ((), ())), True)

    def test_great(self):
        for table in (ALL24, NONE24, EVEN24, opposite(EVEN24)):
            for outs, joins in ((MANY[:12], MANY[12:23]), (MANY[1:], ()), ((), MANY[1:]), ((3, 5), (4,))):
                self.assertIs(is_tidy(table, outs, joins, tidy(table, outs, joins)), True)
        self.assertEqual(tidy(ALL24, (), MANY[1:]), (MANY[1:], ()))
        self.assertEqual(tidy(NONE24, MANY[1:], ()), ((), MANY[1:]))


class Back(Case):
    """[4.6]"""

    def test_tables_with_one_line_more(self):
        for many in (1, 2, 3):
            greater = every_table(many + 1)
            for table in every_table(many):
                outs = [other for other in greater if lesser(other, ("out", many)) == table]
                joins = [other for other in greater if lesser(other, ("join", many)) == table]
                self.assertEqual(len(outs), 2 ** (many - table.size) + 1)
                self.assertEqual(len(joins), 2 ** table.size + 1)
                loose, single = Table(many + 1, table.form), Table(many + 1, table.form + ((many,),))
                wide = [widened(table, lot) for lot in subsets(range(many))]
                long = [lengthened(table, pick) for pick in subsets(range(table.size))]
                for other in outs:
                    self.assertTrue(other == loose or other in wide)
                for other in joins:
                    self.assertTrue(other == single or other in long)
                self.assertTrue(all(other in outs for other in wide + [loose]))
                self.assertTrue(all(other in joins for other in long + [single]))

    def test_widened_and_lengthened(self):
        for table in TABLES:
            new = table.many
            for lot in subsets(range(table.many)):
                other = widened(table, lot)
                sums = table_sums(table)
                self.assertEqual(table_sums(other), sums | {add(row, lot, (new,)) for row in sums})
                self.assertEqual((other.many, other.lots), (table.many + 1, other.form))
                for second in subsets(range(table.many)):
                    self.assertEqual(widened(table, second) == other, add(lot, second) in sums)
            for pick in subsets(range(table.size)):
                other = lengthened(table, pick)
                rows = [row + (new,) if k in pick else row for k, row in enumerate(table.form)]
                self.assertEqual(other, Table(table.many + 1, tuple(rows)))
                self.assertEqual((other.many, other.lots), (table.many + 1, other.form))

    def test_by_the_form(self):
        # The indices are those of the form, not of the lots that were passed.
        table = Table(2, ((0, 1), (0,)))
        self.assertEqual(lengthened(table, (0,)), Table(3, ((0, 2), (1,))))
        self.check_error(InvalidOperation, {}, lengthened, Table(2, ((0,), (0,))), (1,))

    def test_great(self):
        table = Table(23, SINGLES[:23])
        self.assertEqual(widened(table, ()), ALL24)
        self.assertEqual(lengthened(table, MANY[:23]), Table(24, tuple((k, 23) for k in range(23))))
        for table in (ALL24, NONE24, EVEN24):
            self.check_error(TooMany, {"limit": 24}, widened, table, ())
            self.check_error(TooMany, {"limit": 24}, lengthened, table, ())

    def test_wrong(self):
        picks = [(3,), (1, 0), None, [0], True, 0, "0", {}, (0, 0), (-1,), (True,), (False, 1), ((0,),), FANO, (0, 3)]
        self.check_wrong(widened, (ROUNDS, (0,)), [(InvalidTable, NOT_TABLES), (InvalidLot, not_lots(6))])
        self.check_wrong(lengthened, (ROUNDS, (0,)), [(InvalidTable, NOT_TABLES), (InvalidOperation, picks)])
        self.check_wrong(widened, (ALL24, (0,)), [(InvalidTable, NOT_TABLES), (InvalidLot, not_lots(24))])
        self.check_wrong(lengthened, (NONE24, ()), [(InvalidTable, NOT_TABLES), (InvalidOperation, [(0,)] + picks)])
        self.check_error(InvalidOperation, {}, lengthened, Table(2, ()), (0,))

    def test_steps_to(self):
        tables = [table for many in (1, 2, 3) for table in every_table(many)]
        for table, other in itertools.product(tables, repeat=2):
            right = []
            for word, line in itertools.product(("join", "out"), range(table.many)):
                lots = ((), (line,)) if word == "join" else ((line,), ())
                if other.many == table.many - 1 and lesser_sums(table, *lots) == table_sums(other):
                    right.append((word, line))
            self.assertEqual(steps_to(table, other), tuple(right))
        self.assertEqual(steps_to(SINGLE, SINGLE), ())
        self.assertEqual(steps_to(ALL24, ALL24), ())
        self.assertEqual(len(steps_to(ALL24, Table(23, SINGLES[:23]))), 48)
        self.assertEqual(steps_to(FANO, SINGLE), ())
        self.assertEqual(steps_to(SINGLE, FANO), ())

    def test_steps_to_wrong(self):
        self.check_wrong(steps_to, (FANO, ROUNDS), [(InvalidTable, NOT_TABLES), (InvalidTable, NOT_TABLES)])
        self.check_wrong(steps_to, (SINGLE, SINGLE), [(InvalidTable, NOT_TABLES), (InvalidTable, NOT_TABLES)])


class NotTrue(Case):
    """[4.7]"""

    def test_steps_to_one_table_take_unlike_lines(self):
        table = Table(2, ((0, 1),))
        self.assertEqual(steps_to(table, Table(1, ((0,),))), (("join", 0), ("join", 1)))

    def test_out_that_leaves_the_size(self):
        self.assertEqual(lesser(Table(2, ((0,),)), ("out", 1)).size, 1)

    def test_ring_that_is_none_when_a_line_off_it_is_joined(self):
        table = Table(5, ((0, 1, 4), (2, 3, 4)))
        self.assertIs(is_ring(table, (0, 1, 2, 3)), True)
        self.assertIs(is_ring(lesser(table, ("join", 4)), (0, 1, 2, 3)), False)
        self.assertEqual(table_by(4, table_sums(lesser(table, ("join", 4)))), Table(4, ((0, 1), (2, 3))))
