"""Stage 18: lists of lots."""

import itertools
import random
import time

import ringtables.wish.lists as module
from ringtables.errors import InvalidList, InvalidLot, InvalidNumber, InvalidTable, TooMany
from ringtables.main.bars import told_table
from ringtables.net.nets import table_of
from ringtables.table.lesser import lengthened, widened
from ringtables.table.parts import beside, does_hang
from ringtables.table.rings import cuts, rings
from ringtables.table.tables import Table, opposite
from ringtables.wish.lists import conducting, cuts_of, is_cut_of, is_list, is_lot_or_cut, is_odd_or_pair, list_of_table
from ringtables.wish.lists import least_meeting, lot_or_cut, odd_or_pair, table_of_list
from tests.support import ALL1, BOTH, FANO, NONE1, NONE24, NOT_TABLES, ROUNDS, SPLIT, STRANGE, WHEEL, Case, add, cuts_by
from tests.support import hanging_net, not_numbers, picked_tables, rings_of, small_tables, subsets, sums_of, table_sums
from tests.support import twists

CHANCE = random.Random(91)
BRIDGE, TWO = ((0, 1), (0, 2, 4), (1, 2, 3), (3, 4)), ((0, 1), (0, 2), (1, 2))
ONE = ((0,),)
ALL12 = (tuple(range(12)),)
EACH12 = tuple((k,) for k in range(12))
PAIRS12 = tuple((2 * k, 2 * k + 1) for k in range(6))
# Two groups of six contacts, four of either: 400 cuts, three of each.
FOURS12 = tuple(sorted(list(itertools.combinations(range(6), 4)) + list(itertools.combinations(range(6, 12), 4))))
# Sides of a board of six: 90 wishes and more.
WIDE = tuple(sorted(itertools.combinations(range(12), 6)))[:100]


def least_ones(lots):
    return tuple(sorted(lot for lot in lots if not any(set(other) < set(lot) for other in lots)))


def told_by_numbers(lots):
    """The lots with their contacts renamed 0, 1, .."""
    names = sorted({contact for lot in lots for contact in lot})
    return tuple(sorted(tuple(names.index(contact) for contact in lot) for lot in lots))


def some_list(most, wishes):
    many = CHANCE.randint(1, most)
    least = min(many, CHANCE.randint(1, 3))
    lots = {tuple(sorted(CHANCE.sample(range(many), CHANCE.randint(least, min(many, 4))))) for _ in range(wishes)}
    return told_by_numbers(least_ones(lots))


def odd_lists():
    """Odd lists, made by [18.4] of tables that hang together."""
    found = []
    tables = [table for table in small_tables(3) + picked_tables(92, 60, 4, 7) if does_hang(table) and table.many > 1]
    tables += [table_of(hanging_net(CHANCE, 5, 9)) for _ in range(15)] + [ROUNDS, FANO, opposite(FANO), SPLIT]
    for table in tables:
        line = CHANCE.randrange(table.many)
        lots = [tuple(k - (k > line) for k in ring if k != line) for ring in rings_of(table_sums(table))
                if line in ring]
        found.append((table, line, tuple(sorted(lots))))
    return found


ODD = odd_lists()
LISTS = [some_list(7, CHANCE.randint(1, 9)) for _ in range(80)] + [lots for _, _, lots in ODD] + [BRIDGE, TWO, ONE]


def contacts(wishes):
    return sorted({contact for wish in wishes for contact in wish})


def cuts_by_trial(wishes):
    return least_ones([lot for lot in subsets(contacts(wishes)) if all(set(lot) & set(wish) for wish in wishes)])


def is_odd_by(wishes):
    return all(len(set(wish) & set(cut)) % 2 for wish in wishes for cut in cuts_by_trial(wishes))


def not_lists():
    """Values that are no lists."""
    return [None, (), True, 0, "list", [], {}, ((),), (0,), ((1,),), ((0, 2),), ((0, 1), (0, 1)), ((0, 1), (0, 1, 2)),
            ((1,), (0,)), ((0, 1), [2]), [(0,), (1,)], ((1, 0),), ((0, 0),), ((True,),), ((0,), (True, 2)), ((-1, 0),),
            (tuple(range(13)),), ((0, 12),), ((0, 10 ** 60),), ((0,), None), ((0,), "1"), FANO, WHEEL, InvalidLot("0"),
            (FANO,), tuple(itertools.combinations(range(12), 6))[:101], ((0,), (2,)), (((0,),),), ((0, 1), (0,)),
            ((0,), ()), ((), (0,)), {0: (0,)}, ((0, 1), (2, 3), (0, 2, 3))]


class Lists(Case):
    """[0.15]"""

    def test_constants(self):
        self.assertEqual((module.MOST_CONTACTS, module.MOST_WISHES), (12, 100))

    def test_small(self):
        lots = [lot for lot in subsets(range(3))]
        taken = 0
        for count in range(4):
            for value in itertools.permutations(lots, count):
                right = (count > 0 and () not in value and list(value) == sorted(value)
                         and not any(set(a) < set(b) for a in value for b in value)
                         and contacts(value) == list(range(len(contacts(value)))))
                self.assertIs(is_list(value), right)
                taken += right
        # One of one contact, two of two, nine of three.
        self.assertEqual(taken, 12)

    def test_edges(self):
        for value in (ONE, ALL12, EACH12, PAIRS12, FOURS12, WIDE, BRIDGE, TWO):
            self.assertIs(is_list(value), True)
        self.assertEqual((len(WIDE), len(FOURS12)), (100, 30))
        self.assertIs(is_list(tuple(itertools.combinations(range(12), 6))[:101]), False)
        for value in not_lists():
            self.assertIs(is_list(value), False)
        for value in LISTS[:20]:
            for other in twists(value):
                self.assertIs(is_list(other), False)

    def test_never_raises(self):
        for value in STRANGE:
            self.assertIs(is_list(value), repr(value) in ("((0,),)", "((0,), (1,))", "((0, 1),)"))


class Cuts(Case):
    """[18.1]"""

    def test_cuts(self):
        for wishes in LISTS:
            told = cuts_of(wishes)
            self.assertEqual(told, cuts_by_trial(wishes))
            self.assertIs(is_list(told), True)
            self.assertEqual(contacts(told), contacts(wishes))
            self.assertEqual(cuts_of(told), wishes)

    def test_each_contact_alone(self):
        for wishes in LISTS:
            for cut in cuts_of(wishes):
                for contact in cut:
                    self.assertTrue(any(set(wish) & set(cut) == {contact} for wish in wishes))

    def test_judged(self):
        for wishes in LISTS[::2]:
            lots = subsets(contacts(wishes)) + [(0, len(contacts(wishes)))]
            taken = self.check_judged(is_cut_of, (wishes,), lots, lambda value: value in cuts_of(wishes))
            self.assertEqual(taken, len(cuts_of(wishes)))
        self.check_takes(is_cut_of, (BRIDGE,), (0, 2, 4))
        self.check_takes(is_cut_of, (TWO,), (0, 1))
        for wishes in (BRIDGE, TWO, ALL12, WIDE):
            self.check_never(is_cut_of, (wishes,))

    def test_either_or(self):
        for wishes in LISTS:
            for shut in subsets(contacts(wishes)):
                value = lot_or_cut(wishes, shut)
                self.assertIs(is_lot_or_cut(wishes, shut, value), True)
                lots = [wish for wish in wishes if set(wish) <= set(shut)]
                open_ones = [cut for cut in cuts_by_trial(wishes) if not set(cut) & set(shut)] if not lots else []
                self.assertIn(value[1], lots or open_ones)
                self.assertEqual(value[0], "lot" if lots else "cut")

    def test_either_or_judged(self):
        for wishes in LISTS[:20] + [BRIDGE, TWO]:
            every = subsets(contacts(wishes))
            for shut in every[::3]:
                lots = [wish for wish in wishes if set(wish) <= set(shut)]
                told = [cut for cut in cuts_by_trial(wishes) if not set(cut) & set(shut)]
                self.assertFalse(lots and told)
                self.check_judged(is_lot_or_cut, (wishes, shut), [("lot", lot) for lot in every],
                                  lambda value: value[1] in lots)
                self.check_judged(is_lot_or_cut, (wishes, shut), [("cut", lot) for lot in every],
                                  lambda value: value[1] in told)
        self.check_takes(is_lot_or_cut, (BRIDGE, (0, 3, 4)), ("lot", (3, 4)))
        self.check_takes(is_lot_or_cut, (BRIDGE, (0, 2)), ("cut", (1, 4)))
        for shut in ((), (0, 1, 2), (0, 1, 2, 3, 4)):
            self.check_never(is_lot_or_cut, (BRIDGE, shut))
            for value in STRANGE:
                for word in ("lot", "cut"):
                    right = word == "lot" and repr(value) == "(0, 1)" and len(shut) > 2
                    self.assertIs(is_lot_or_cut(BRIDGE, shut, (word, value)), right)

    def test_most_cuts(self):
        # A list of 100 wishes at most does not have 924 cuts: all lots of six contacts are met by all of seven alone.
        masks = [sum(1 << k for k in lot) for lot in itertools.combinations(range(12), 7)]
        before = time.perf_counter()
        self.assertEqual(least_meeting(12, masks), tuple(itertools.combinations(range(12), 6)))
        self.assertLess(time.perf_counter() - before, 2)
        self.assertEqual([least_meeting(1, []), least_meeting(12, [])], [((),), ((),)])

    def test_great(self):
        self.assertEqual(cuts_of(ALL12), EACH12)
        self.assertEqual(cuts_of(EACH12), ALL12)
        self.assertEqual(cuts_of(PAIRS12), tuple(sorted(itertools.product(*PAIRS12))))
        told = cuts_of(FOURS12)
        self.assertEqual(told, tuple(sorted(a + b for a in itertools.combinations(range(6), 3)
                                            for b in itertools.combinations(range(6, 12), 3))))
        self.assertEqual(len(told), 400)
        for wishes in (WIDE, FOURS12, ALL12, EACH12):
            before = time.perf_counter()
            for cut in cuts_of(wishes):
                self.assertTrue(all(set(cut) & set(wish) for wish in wishes))
            self.assertIs(is_odd_or_pair(wishes, odd_or_pair(wishes)), True)
            conducting(wishes)
            self.assertIs(is_lot_or_cut(wishes, (0, 5), lot_or_cut(wishes, (0, 5))), True)
            self.assertLess(time.perf_counter() - before, 2)


class Shut(Case):
    """[18.2], [18.6]"""

    def test_shut_and_open(self):
        for wishes in LISTS[::3]:
            told = cuts_of(wishes)
            for shut in subsets(contacts(wishes)):
                beyond = tuple(contact for contact in contacts(wishes) if contact not in shut)
                self.assertEqual(lot_or_cut(wishes, shut)[0] == "lot", lot_or_cut(told, beyond)[0] == "cut")

    def test_counted(self):
        for wishes in LISTS:
            every = subsets(contacts(wishes))
            many = sum(any(set(wish) <= set(shut) for wish in wishes) for shut in every)
            self.assertEqual(conducting(wishes), many)
            self.assertEqual(conducting(cuts_of(wishes)), len(every) - many)
        self.assertEqual([conducting(ONE), conducting(ALL12), conducting(EACH12)], [1, 1, 4095])
        self.assertEqual(conducting(PAIRS12), 4096 - 3 ** 6)


class Odd(Case):
    """[18.3], [18.5]"""

    def test_odd_or_pair(self):
        odd = 0
        for wishes in LISTS:
            value = odd_or_pair(wishes)
            self.assertIs(is_odd_or_pair(wishes, value), True)
            self.assertEqual(value == ("odd",), is_odd_by(wishes))
            odd += value == ("odd",)
            if value != ("odd",):
                word, lot, cut = value
                self.assertEqual(word, "even")
                self.assertTrue(lot in wishes and cut in cuts_by_trial(wishes))
                self.assertEqual(len(set(lot) & set(cut)) % 2, 0)
            else:
                self.assertEqual(odd_or_pair(cuts_of(wishes)), ("odd",))
        self.assertTrue(20 < odd < len(LISTS) - 20)

    def test_judged(self):
        for wishes in LISTS[::4] + [BRIDGE, TWO]:
            every = subsets(contacts(wishes))
            told = cuts_by_trial(wishes)
            values = [("even", lot, cut) for lot in every[:40] for cut in every[:40]]
            self.check_judged(is_odd_or_pair, (wishes,), values, lambda value: (
                value[1] in wishes and value[2] in told and len(set(value[1]) & set(value[2])) % 2 == 0))
            self.assertIs(is_odd_or_pair(wishes, ("odd",)), is_odd_by(wishes))
        self.check_takes(is_odd_or_pair, (BRIDGE,), ("odd",))
        self.check_takes(is_odd_or_pair, (TWO,), ("even", (0, 1), (0, 1)))
        for wishes in (BRIDGE, TWO, ONE, WIDE):
            self.check_never(is_odd_or_pair, (wishes,))
        for value in STRANGE:
            self.assertIs(is_odd_or_pair(TWO, ("even", (0, 1), value)), repr(value) == "(0, 1)")
            self.assertIs(is_odd_or_pair(TWO, ("even", value, (0, 1))), repr(value) == "(0, 1)")
            self.assertIs(is_odd_or_pair(BRIDGE, ("odd", value)), False)


class ExactlyIf(Case):
    """[18.4], [0.21]"""

    def test_of_tables(self):
        for table, line, lots in ODD:
            self.assertEqual(list_of_table(table, line), lots)
            self.assertIs(is_list(lots), True)
            self.assertTrue(is_odd_by(lots))
            told = tuple(sorted(tuple(k - (k > line) for k in cut if k != line) for cut in cuts_by(table)
                                if line in cut))
            self.assertEqual(cuts_of(lots), told)

    def test_table_of_list(self):
        for wishes in LISTS:
            many = len(contacts(wishes))
            table = table_of_list(wishes)
            self.assertEqual(table, Table(many + 1, tuple(wish + (many,) for wish in wishes[:24])
                                          ) if len(wishes) < 25 else table)
            self.assertEqual(table.lots, table.form)
            self.assertEqual(set(table_sums(table)), set(sums_of([wish + (many,) for wish in wishes])))
            # The rings through the pole line are just the lots EXACTLY IF the list is odd.
            self.assertEqual(list_of_table(table, many) == wishes, is_odd_by(wishes))
            if is_odd_by(wishes):
                self.assertIs(does_hang(table), True)

    def test_sums_of_odd_lists(self):
        for wishes in [wishes for wishes in LISTS if is_odd_by(wishes)][::4]:
            told = cuts_of(wishes)
            for lots in itertools.combinations(wishes, 3):
                total = add(*lots)
                self.assertTrue(all(len(set(total) & set(cut)) % 2 for cut in told))
                self.assertTrue(any(set(wish) <= set(total) for wish in wishes))

    def test_no_other_table(self):
        # Of the tables that hang together no two have the same rings through a line.
        found = {}
        for table in [table for table in small_tables(4) if does_hang(table) and table.many > 1]:
            lots = list_of_table(table, table.many - 1)
            self.assertNotIn((table.many, lots), found)
            found[table.many, lots] = table
            self.assertEqual(table_of_list(lots), table)

    def test_list_of_table(self):
        for table in small_tables(3) + picked_tables(93, 40, 4, 8) + [FANO, BOTH, SPLIT, told_table("five")]:
            for line in range(table.many):
                lots = [tuple(k - (k > line) for k in ring if k != line) for ring in rings(table) if line in ring]
                self.assertEqual(list_of_table(table, line), tuple(sorted(lots)))

    def test_edges(self):
        self.assertEqual([list_of_table(NONE1, 0), list_of_table(ALL1, 0)], [(), ((),)])
        self.assertEqual(table_of_list(ONE), Table(2, ((0, 1),)))
        self.assertEqual(list_of_table(Table(13, ()), 12), ())
        singles = Table(13, tuple((k,) for k in range(13)))
        self.assertEqual(list_of_table(singles, 5), ((),))
        self.assertEqual(list_of_table(Table(13, (tuple(range(13)),)), 12), ALL12)
        twos = Table(13, tuple((k, k + 1) for k in range(12)))
        self.assertEqual(list_of_table(twos, 12), EACH12)
        self.assertEqual(list_of_table(twos, 0), EACH12)
        self.assertEqual(list_of_table(beside(Table(12, singles.lots[:12]), NONE1), 12), ())
        wide = FANO
        while wide.many < 13:
            lot = tuple(k for k in range(wide.many) if CHANCE.random() < 0.4)
            wide = widened(wide, lot) if CHANCE.random() < 0.7 else lengthened(wide, (0, 1))
        for line in range(13):
            lots = [tuple(k - (k > line) for k in ring if k != line) for ring in rings(wide) if line in ring]
            self.assertEqual(list_of_table(wide, line), tuple(sorted(lots)))
        self.assertEqual(table_of_list(WIDE).many, 13)

    def test_cuts_are_of_the_opposite(self):
        for table, line, lots in ODD[::3]:
            self.assertEqual(cuts_of(lots), list_of_table(opposite(table), line))
            self.assertEqual(len(cuts(table)), len(rings(opposite(table))))


class Wrong(Case):
    def test_wrong(self):
        lists = (InvalidList, not_lists())
        for function in (cuts_of, conducting, odd_or_pair, table_of_list):
            self.check_wrong(function, (BRIDGE,), [lists])
        shut = (InvalidLot, [(5,), (0, 5), (1, 0), (0, 0), None, True, 0, [0], {}, (True,), ("0",), (-1,), (10 ** 60,),
                             FANO, ((0,),)])
        self.check_wrong(lot_or_cut, (BRIDGE, (0, 1)), [lists, shut])
        self.check_judge_wrong(is_lot_or_cut, (BRIDGE, (0, 1)), ("lot", (0, 1)), [lists, shut])
        self.check_judge_wrong(is_cut_of, (BRIDGE,), (0, 3), [lists])
        self.check_judge_wrong(is_odd_or_pair, (BRIDGE,), ("odd",), [lists])
        self.check_wrong(list_of_table, (ROUNDS, 5), [(InvalidTable, NOT_TABLES), (InvalidNumber, not_numbers(0, 5))])

    def test_many_lines(self):
        for table in (Table(14, ()), NONE24, Table(14, ((0, 13),))):
            self.check_error(TooMany, {"limit": 13}, list_of_table, table, 0)
        self.check_error(InvalidNumber, {"given": 14}, list_of_table, Table(14, ()), 14)


class NotTrue(Case):
    """[18.7]"""

    def test_odd_size(self):
        self.assertEqual(odd_or_pair(BRIDGE), ("odd",))
        self.assertIn((0, 1), BRIDGE)

    def test_as_many_cuts_as_lots(self):
        self.assertEqual(len(cuts_of(TWO)), len(TWO))
        self.assertNotEqual(odd_or_pair(TWO), ("odd",))

    def test_even_common_contacts(self):
        wishes = ((0, 1, 2, 3), (0, 1, 4, 5), (2, 3, 4, 5))
        self.assertTrue(all(len(set(a) & set(b)) % 2 == 0 for a, b in itertools.combinations(wishes, 2)))
        self.assertEqual(odd_or_pair(wishes)[0], "even")

    def test_equal_tables(self):
        one, other = EACH12[:4], tuple(itertools.combinations(range(4), 3))
        self.assertEqual(table_of_list(one), table_of_list(other))
        self.assertTrue(is_list(one) and is_list(other) and one != other)
        self.assertEqual([odd_or_pair(wishes)[0] for wishes in (one, other)], ["odd", "even"])
