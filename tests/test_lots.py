"""Stage 1: lots and their sums."""

import itertools

from ringtables.base import lots as module
from ringtables.base.lots import are_lots, common_form, does_meet_oddly, form_of, is_lot_of, is_met_or_bar
from ringtables.base.lots import is_sum_or_test, lot_sum, met_or_bar, opposite_form, sum_of_pick, sum_or_test
from ringtables.errors import InvalidLot, InvalidNumber, InvalidOperation
from tests.support import STRANGE, Case, add, form_by, not_lots, not_numbers, odd, opposite_of, picked_tables, subsets
from tests.support import sums_of

MANY = tuple(range(24))
HALF = tuple((k, k + 1) for k in range(23))
FULL = tuple((k % 24, k % 24 + 1 + k // 24) if k % 24 + 1 + k // 24 < 24 else (k % 24,) for k in range(64))
# Tuples of lots: none, the lot (), equal ones, dependent ones, some that are picked, and 64.
TUPLES = [(), ((),), ((), ()), ((0,), (0,)), ((0, 1), (1, 2), (0, 2)), ((23,),), (MANY,), (MANY, MANY, ()),
          ((0, 1), (2, 3), (0, 2, 4), (1, 3, 4)), ((3,), (1,), (0, 2))]
TUPLES += [table.lots for table in picked_tables(1, 25, 3, 6)]
GREAT = [HALF, FULL, ((),) * 64, (MANY,) * 64, tuple((k,) for k in range(24)) + tuple(HALF)]
NOT_LOTS = not_lots(24)
NOT_TUPLES = [[], None, ((24,),), ((1, 0),), True, 0, "01", {}, {(0, 1): 1}, ((0, 1), [2]), ((0,), (True,)), (0, 1),
              ((0,), None), ((0, 0),), ((-1,),), ((),) * 65, (((0,),),), ((10 ** 60,),), "", ("01",), [(0, 1)]]
NOT_PICKS = [(3,), (1, 0), None, True, 0, [], [0], {}, (0, 0), (-1,), (True,), (False, 1), "0", ("0",), ((0,),),
             (10 ** 60,), (0, 3)]
THREE = ((0, 1), (1, 2), (0, 2))


def lots_in(lots):
    """All lots of the lines that are there, and of one more."""
    lines = {line for lot in lots for line in lot}
    free = [line for line in range(24) if line not in lines][:1]
    return subsets(sorted(lines | set(free))) if len(lines) < 8 else [(), lots[0], (0,), (1, 2), MANY, (22, 23)]


def picks_of(lots):
    return subsets(range(len(lots)))


class Constants(Case):
    def test_constants(self):
        self.assertEqual((module.MOST_LINES, module.MOST_LOTS), (24, 64))


class Kinds(Case):
    def test_is_lot_of(self):
        for many in (1, 2, 7, 24):
            self.check_never(is_lot_of, (many,))
            self.assertIs(is_lot_of(many, ()), True)
            self.check_takes(is_lot_of, (many,), tuple(range(many)))
            self.check_takes(is_lot_of, (many,), (many - 1,))
            for value in not_lots(many):
                self.assertIs(is_lot_of(many, value), False)

    def test_are_lots(self):
        self.check_never(are_lots, ())
        for lots in TUPLES + GREAT:
            self.assertIs(are_lots(lots), True)
            if len(lots) < 5:
                self.check_takes(are_lots, (), lots)
        for value in NOT_TUPLES:
            self.assertIs(are_lots(value), False, value)

    def test_wrong(self):
        self.check_wrong(is_lot_of, (3, (0,)), [(InvalidNumber, not_numbers(1, 24))])
        self.check_error(InvalidNumber, {"given": 0}, is_lot_of, 0, None)
        self.check_error(InvalidNumber, {"given": 25}, is_lot_of, 25, ())


class Sums(Case):
    """[1.1]"""

    def test_lot_sum(self):
        for one, other in itertools.product(subsets(range(5)), repeat=2):
            self.assertEqual(lot_sum(one, other), add(one, other))
        self.assertEqual(lot_sum(MANY, (0, 23)), tuple(range(1, 23)))
        self.assertEqual(lot_sum((), ()), ())

    def test_does_meet_oddly(self):
        for one, other in itertools.product(subsets(range(5)), repeat=2):
            self.assertIs(does_meet_oddly(one, other), odd(one, other))
        self.assertIs(does_meet_oddly(MANY, MANY), False)
        self.assertIs(does_meet_oddly(MANY, (23,)), True)

    def test_sum_of_pick(self):
        for lots in TUPLES:
            for pick in picks_of(lots):
                total = sum_of_pick(lots, pick)
                self.assertEqual(total, add(*[lots[k] for k in pick]))
                for lot in lots_in(lots)[:20]:
                    met = sum(odd(lot, lots[k]) for k in pick)
                    self.assertEqual(does_meet_oddly(lot, total), met % 2 == 1)
        self.assertEqual(sum_of_pick((), ()), ())
        self.assertEqual(sum_of_pick(HALF, tuple(range(23))), (0, 23))
        self.assertEqual(sum_of_pick((MANY,) * 64, tuple(range(64))), ())
        self.assertEqual(sum_of_pick((MANY,) * 64, (63,)), MANY)

    def test_wrong(self):
        for function in (lot_sum, does_meet_oddly):
            self.check_wrong(function, ((0, 1), (1,)), [(InvalidLot, NOT_LOTS), (InvalidLot, NOT_LOTS)])
        wrongs = [(InvalidLot, NOT_TUPLES), (InvalidOperation, NOT_PICKS)]
        self.check_wrong(sum_of_pick, (THREE, (0, 1)), wrongs)
        self.check_error(InvalidOperation, {}, sum_of_pick, (), (0,))


class Forms(Case):
    """[1.2]"""

    def test_form_of(self):
        for lots in TUPLES:
            if len({line for lot in lots for line in lot}) > 8:
                continue
            sums = sums_of(lots)
            form = form_of(lots)
            self.assertEqual(form, form_by(sums))
            self.assertEqual(sums_of(form), sums)
            self.assertEqual(len(sums), 2 ** len(form))
            for lot in sums:
                self.assertEqual(add(*[row for row in form if row[0] in lot]), lot)

    def test_same_sums_same_form(self):
        chosen = [lots for lots in itertools.combinations(subsets(range(3)), 3)]
        for one, other in itertools.product(chosen[:30], chosen):
            self.assertEqual(form_of(one) == form_of(other), sums_of(one) == sums_of(other))

    def test_great(self):
        self.assertEqual(form_of(HALF), tuple((k, 23) for k in range(23)))
        self.assertEqual(form_of(((),) * 64), ())
        self.assertEqual(form_of((MANY,) * 64), (MANY,))
        self.assertEqual(form_of(GREAT[4]), tuple((k,) for k in range(24)))
        self.assertEqual(form_of(()), ())
        self.assertEqual(form_of(form_of(FULL)), form_of(FULL))

    def test_wrong(self):
        self.check_wrong(form_of, (THREE,), [(InvalidLot, NOT_TUPLES)])


class SumOrTest(Case):
    """[1.3]"""

    def test_one_of_both(self):
        for lots in TUPLES + GREAT:
            sums = set(form_of(lots))
            for lot in lots_in(lots):
                value = sum_or_test(lots, lot)
                self.assertIs(is_sum_or_test(lots, lot, value), True)
                if len(lots) < 8 and len(sums) < 8:
                    self.assertEqual(value[0] == "sum", lot in sums_of(lots))

    def test_judge_takes_each_right_one(self):
        for lots in TUPLES[:20]:
            if max([0] + [line for lot in lots for line in lot]) > 6 or len(lots) > 5:
                continue
            for lot in subsets(range(4)):
                picks = [("sum", pick) for pick in picks_of(lots)]
                tests = [("test", other) for other in subsets(range(7))]
                taken = self.check_judged(is_sum_or_test, (lots, lot), picks,
                                          lambda value: add(*[lots[k] for k in value[1]]) == lot)
                more = self.check_judged(is_sum_or_test, (lots, lot), tests, lambda value: odd(value[1], lot)
                                         and not any(odd(value[1], other) for other in lots))
                # Never both; one of both.
                self.assertEqual(bool(taken) + bool(more), 1)
        self.assertIs(is_sum_or_test(((0, 1),), (0,), ("test", (0, 1, 23))), True)

    def test_judge_takes_nothing_else(self):
        self.check_never(is_sum_or_test, (THREE, (0, 2)))
        self.check_never(is_sum_or_test, (THREE, (0, 3)))
        self.check_takes(is_sum_or_test, (THREE, (0, 2)), ("sum", (0, 1)))
        self.check_takes(is_sum_or_test, (THREE, (0, 2)), ("sum", (2,)))
        self.check_takes(is_sum_or_test, (THREE, ()), ("sum", ()))
        self.check_takes(is_sum_or_test, (THREE, (0,)), ("test", (0, 1, 2)))
        for value in (("sum", (3,)), ("sum", (2, 2)), ("sum", (1, 0)), ("test", (0, 1, 2)), ("test", (24,)),
                      ("sum", (0, 1, 2)), ("sum", (0, 1), 0)):
            self.assertIs(is_sum_or_test(THREE, (0, 2), value), False)

    def test_wrong(self):
        wrongs = [(InvalidLot, NOT_TUPLES), (InvalidLot, NOT_LOTS)]
        self.check_wrong(sum_or_test, (THREE, (0,)), wrongs)
        self.check_wrong(is_sum_or_test, (THREE, (0,), None), wrongs)


class MetOrBar(Case):
    """[1.4]"""

    def test_one_of_both(self):
        for lots in TUPLES:
            for bits in itertools.product((0, 1), repeat=len(lots)):
                self.assertIs(is_met_or_bar(lots, bits, met_or_bar(lots, bits)), True)
        for lots in GREAT:
            for seed in range(8):
                bits = tuple((k * k + seed * k) // 3 % 2 for k in range(len(lots)))
                self.assertIs(is_met_or_bar(lots, bits, met_or_bar(lots, bits)), True)
        self.assertEqual(met_or_bar(((),) * 64, (0,) * 64)[0], "lot")
        self.assertEqual(met_or_bar(((),) * 64, (0,) * 63 + (1,)), ("bar", (63,)))

    def test_judge_takes_each_right_one(self):
        for lots in TUPLES[:20]:
            if max([0] + [line for lot in lots for line in lot]) > 6 or len(lots) > 5:
                continue
            for bits in itertools.product((0, 1), repeat=len(lots)):
                met = [("lot", lot) for lot in subsets(range(7))]
                taken = self.check_judged(is_met_or_bar, (lots, bits), met, lambda value: all(
                    odd(value[1], lot) == bool(bit) for lot, bit in zip(lots, bits)))
                bars = [("bar", pick) for pick in picks_of(lots)]
                more = self.check_judged(is_met_or_bar, (lots, bits), bars, lambda value: sum(
                    bits[k] for k in value[1]) % 2 == 1 and not add(*[lots[k] for k in value[1]]))
                self.assertEqual(bool(taken) + bool(more), 1)
                # With so many lines there are 2 ** (many - r), or none.
                self.assertIn(taken, (0, 2 ** (7 - len(form_of(lots)))))

    def test_judge_takes_nothing_else(self):
        self.check_never(is_met_or_bar, (THREE, (1, 0, 1)))
        self.check_never(is_met_or_bar, (THREE, (1, 1, 1)))
        self.check_takes(is_met_or_bar, (THREE, (1, 0, 1)), ("lot", (0, 9)))
        self.check_takes(is_met_or_bar, (THREE, (1, 1, 1)), ("bar", (0, 1, 2)))
        self.check_takes(is_met_or_bar, ((), ()), ("lot", (23,)))
        for value in (("lot", (0, 24)), ("lot", (9, 0)), ("bar", (0, 1, 2)), ("bar", ()), ("bar", (3,)), ("lot", ())):
            self.assertIs(is_met_or_bar(THREE, (1, 0, 1), value), False)

    def test_wrong(self):
        bits = [(0, 1), (1, 1, 2), None, (True, 0, 1), (0, 1, 0, 1), [0, 1, 0], "010", (), {}, 0, True, (0, 1, None),
                (-1, 0, 0), (0, False, 0), (0, 0, 10 ** 60)]
        wrongs = [(InvalidLot, NOT_TUPLES), (InvalidOperation, bits)]
        self.check_wrong(met_or_bar, (THREE, (0, 1, 0)), wrongs)
        self.check_wrong(is_met_or_bar, (THREE, (0, 1, 0), None), wrongs)
        self.check_error(InvalidOperation, {}, met_or_bar, (), (0,))


class Opposites(Case):
    """[1.5]"""

    def test_opposite_form(self):
        for lots in TUPLES:
            for many in (5, 6, 7):
                if max([0] + [line for lot in lots for line in lot]) < many:
                    form = opposite_form(many, lots)
                    self.assertEqual(form, form_by(opposite_of(many, lots)))
                    self.assertEqual(len(form), many - len(form_of(lots)))
                    self.assertEqual(opposite_form(many, form), form_of(lots))

    def test_edges(self):
        self.assertEqual(opposite_form(1, ()), ((0,),))
        self.assertEqual(opposite_form(1, ((0,),)), ())
        self.assertEqual(opposite_form(24, ()), tuple((k,) for k in range(24)))
        self.assertEqual(opposite_form(24, tuple((k,) for k in range(24))), ())
        self.assertEqual(opposite_form(24, HALF), (MANY,))
        self.assertEqual(opposite_form(24, FULL), opposite_form(24, form_of(FULL)))
        self.assertEqual(opposite_form(24, ((),) * 64), tuple((k,) for k in range(24)))

    def test_wrong(self):
        wrongs = [(InvalidNumber, not_numbers(1, 24)), (InvalidLot, NOT_TUPLES)]
        self.check_wrong(opposite_form, (3, THREE), wrongs)
        self.check_error(InvalidOperation, {}, opposite_form, 3, ((0,), (1, 3)))
        self.check_error(InvalidOperation, {}, opposite_form, 1, ((23,),))
        # What comes with "then" is behind all others.
        self.check_wrong(opposite_form, (2, THREE), wrongs)


class Common(Case):
    """[1.6]"""

    def test_common_form(self):
        for one, other in itertools.product(TUPLES, repeat=2):
            form = common_form(one, other)
            if all(len({line for lot in lots for line in lot}) < 8 for lots in (one, other)):
                self.assertEqual(form, form_by(sums_of(one) & sums_of(other)))
            self.assertEqual(len(form) + len(form_of(one + other)), len(form_of(one)) + len(form_of(other)))

    def test_great(self):
        for lots in GREAT:
            self.assertEqual(common_form(lots, lots), form_of(lots))
            self.assertEqual(common_form(lots, ()), ())
            self.assertEqual(common_form(tuple((k,) for k in range(24)), lots), form_of(lots))

    def test_wrong(self):
        self.check_wrong(common_form, (THREE, ()), [(InvalidLot, NOT_TUPLES), (InvalidLot, NOT_TUPLES)])


class NotTrue(Case):
    """[1.7]"""

    def test_as_many_as_the_form(self):
        self.assertEqual(len(form_of(THREE)), 2)

    def test_two_by_two_is_not_all(self):
        for pair in itertools.combinations(THREE, 2):
            self.assertEqual(met_or_bar(pair, (1, 1))[0], "lot")
        self.assertEqual(met_or_bar(THREE, (1, 1, 1))[0], "bar")

    def test_no_sum_that_meets_evenly(self):
        self.assertEqual(sum_or_test(((0, 1),), (0, 1, 2))[0], "test")
        self.assertIs(does_meet_oddly((0, 1), (0, 1, 2)), False)

    def test_opposite_with_a_sum_of_the_lots(self):
        self.assertEqual(common_form(opposite_form(2, ((0, 1),)), ((0, 1),)), ((0, 1),))


class Same(Case):
    """[0.2]"""

    def test_equal_calls(self):
        for lots in TUPLES + GREAT:
            self.assertEqual(form_of(lots), form_of(tuple(list(lots))))
            self.assertEqual(opposite_form(24, lots), opposite_form(24, lots))

    def test_strange_is_no_lot(self):
        for value in STRANGE:
            if not is_lot_of(24, value):
                self.check_error(InvalidLot, {}, lot_sum, value, ())
            if not are_lots(value):
                self.check_error(InvalidLot, {}, form_of, value)
