"""Stage 23: a bench."""

import itertools
import random
import time

import ringtables.bench.bench as module
from ringtables.bench.bench import Bench, is_led_net, kind_above, led_net
from ringtables.errors import InvalidNet, InvalidOperation, InvalidTable, NothingToUndo, Refused, TooMany, UnknownName
from ringtables.main.bars import told_table
from ringtables.main.found import net_of
from ringtables.main.kinds import KINDS, kind, kind_by, kinds_of_parts
from ringtables.net.nets import Net, is_net_of, net_join, net_out, table_of
from ringtables.sign.signs import sign_count
from ringtables.table.lesser import lengthened, lesser, widened
from ringtables.table.parts import beside, parts
from ringtables.table.tables import Table, opposite, relined
from tests.support import ALL1, BOTH, EVEN24, FANO, NONE1, NONE24, NOT_NETS, NOT_TABLES, ONE24, ROUNDS, STRANGE, TWOS
from tests.support import WHEEL, Case, add, form_by, hanging_net, not_numbers, opposite_of, picked_nets, picked_tables
from tests.support import small_tables, table_sums, told_anew, unlike_net, whole_net
from tests.test_kinds import TEN, TOLD

CHANCE = random.Random(141)
FIVE, SIX = told_table("five"), told_table("six")
TABLES = small_tables(2) + picked_tables(142, 20, 3, 6) + [FANO, BOTH, ROUNDS]
NETS = picked_nets(143, 25, 6, 8) + [WHEEL, Net(1, ((0, 0), (0, 0))), Net(25, ((0, 24), (3, 3)))]
ABOVE = {"flat": set(KINDS), "net": {"net", "signed", "bare"}, "opposite": {"opposite", "signed", "bare"},
         "signed": {"signed", "bare"}, "bare": {"bare"}}


def some_lot(many):
    return tuple(k for k in range(many) if CHANCE.random() < 0.4)


def some_deed(table, most=24):
    """A deed that fits, and leads to at most so many lines."""
    others = [other for other in (NONE1, ALL1, Table(2, ((0, 1),)), ROUNDS) if table.many + other.many <= most]
    deeds = [("sum", some_lot(table.many)), ("lines", tuple(CHANCE.sample(range(table.many), table.many))),
             ("opposite",)]
    if table.many > 1:
        deeds += [("out", CHANCE.randrange(table.many)), ("join", CHANCE.randrange(table.many))]
    if table.many < most:
        deeds += [("wide", some_lot(table.many)), ("long", some_lot(table.size))]
    return CHANCE.choice(deeds + [("beside", other) for other in others])


def led_by(table, deed):
    """Lines and sums behind a deed, by what it says of the sums."""
    many, sums = table.many, table_sums(table)
    word = deed[0]
    if word == "opposite":
        return many, opposite_of(many, sums)
    told = deed[1]
    if word in ("out", "join"):
        stay = [line for line in range(many) if line != told]
        kept = [lot for lot in sums if word == "join" or told not in lot]
        return many - 1, {told_anew([line for line in lot if line != told], stay) for lot in kept}
    if word == "wide":
        return many + 1, sums | {add(lot, told, (many,)) for lot in sums}
    if word == "sum":
        return many, sums | {add(lot, told) for lot in sums}
    if word == "long":
        heads = [table.form[k][0] for k in told]
        return many + 1, {lot + (many,) if len(set(lot) & set(heads)) % 2 else lot for lot in sums}
    if word == "lines":
        return many, {tuple(sorted(told.index(line) for line in lot)) for lot in sums}
    return many + told.many, {lot + tuple(line + many for line in other) for lot in sums for other in table_sums(told)}


class Deeds(Case):
    """[23.1]"""

    def test_constants(self):
        self.assertEqual(module.MOST_DEEDS, 200)

    def test_deeds(self):
        words = set()
        for table in TABLES:
            bench = Bench(table)
            self.assertEqual((bench.table.lots, bench.deeds), (table.lots, ()))
            done = []
            for _ in range(8):
                before = bench.table
                deed = some_deed(before, 8)
                self.assertIsNone(bench.do(deed))
                words.add(deed[0])
                done.append(deed)
                many, sums = led_by(before, deed)
                self.assertEqual((bench.table.many, set(table_sums(bench.table))), (many, set(sums)))
                # Behind each deed the lots are the form.
                self.assertEqual((bench.table.lots, bench.table.form), (form_by(sums), form_by(sums)))
                self.assertEqual(bench.deeds, tuple(done))
                self.assertEqual(str(bench), f"bench of {many} lines, size {bench.table.size}, {len(done)} deeds")
        self.assertEqual(words, {"out", "join", "wide", "long", "sum", "lines", "beside", "opposite"})

    def test_by_stages(self):
        for table in TABLES:
            for deed, told in [(("opposite",), opposite(table)), (("wide", (0,)), widened(table, (0,))),
                               (("long", ()), lengthened(table, ())), (("beside", BOTH), beside(table, BOTH)),
                               (("lines", tuple(range(table.many))[::-1]),
                                relined(table, tuple(range(table.many))[::-1]))]:
                bench = Bench(table)
                bench.do(deed)
                self.assertEqual(bench.table, told)
            if table.many > 1:
                for step in (("out", 1), ("join", 0)):
                    bench = Bench(table)
                    bench.do(step)
                    self.assertEqual(bench.table, lesser(table, step))

    def test_str(self):
        self.assertEqual([str(Bench(NONE1)), str(Bench(FANO))], ["bench of 1 lines, size 0, 0 deeds",
                                                                 "bench of 7 lines, size 4, 0 deeds"])

    def test_apart(self):
        # No two benches share anything, and what is told does not change.
        one, other = Bench(FANO), Bench(FANO)
        table, deeds = one.table, one.deeds
        one.do(("out", 0))
        self.assertEqual((other.table, other.deeds, table, deeds), (FANO, (), FANO, ()))
        self.assertEqual(one.deeds, (("out", 0),))
        with self.assertRaises(TypeError):
            iter(one)
        for value in STRANGE:
            self.assertIs(one == value, False)
            self.assertIs(one != value, True)
        with self.assertRaises(AttributeError):
            one.table = FANO

    def test_not_deeds(self):
        no_lots = [(7,), (1, 0), [0], None, True, "0", (True,), (0, 0), {}, FANO, 0, (10 ** 60,)]
        deeds = [None, (), True, 3, "out", ["out", 0], ("out",), ("out", 0, 0), ("Out", 0), ("undo",), ("sum",), {},
                 FANO,
                 ("opposite", ()), ("opposite", 0), ("opposite", FANO), "opposite", ["opposite"], ("join",), (0, "out"),
                 (("out", 0),), ("out", (0,)), ("beside", None), ("beside", WHEEL), ("beside", (7, ())), ("beside",),
                 ("beside", FANO, FANO), ("net",), (None, 0), ([], 0)]
        deeds += [(word, line) for word in ("out", "join") for line in not_numbers(0, 6)]
        deeds += [(word, lot) for word in ("wide", "sum") for lot in no_lots]
        deeds += [("long", pick) for pick in no_lots + [(4,), (0, 4)]]
        deeds += [("lines", order) for order in no_lots + [tuple(range(6)), tuple(range(8)), (0,) * 7, list(range(7)),
                                                           (),
                                                          (False, 1, 2, 3, 4, 5, 6), (1, 2, 3, 4, 5, 6, 7), ("0",) * 7]]
        for start in (0, 2):
            bench = Bench(FANO)
            for _ in range(start):
                bench.do(("opposite",))
            for deed in deeds:
                self.check_error(InvalidOperation, {}, bench.do, deed)
                self.assertEqual((bench.table, len(bench.deeds)), (FANO, start))
        for value in STRANGE:
            bench = Bench(FANO)
            if repr(value) not in ("('out', 0)", "('sum', (0,))"):
                self.check_error(InvalidOperation, {}, bench.do, value)

    def test_wrong(self):
        for value in NOT_TABLES:
            with self.assertRaises(InvalidTable):
                Bench(value)


class Refusals(Case):
    def state(self, bench):
        return (bench.table.many, bench.table.lots, bench.deeds, str(bench))

    def check_refused(self, error, kept, bench, deed):
        before = self.state(bench)
        self.check_error(error, kept, bench.do, deed)
        self.assertEqual(self.state(bench), before)

    def test_nothing(self):
        for table in (NONE1, ALL1):
            for deed in (("out", 0), ("join", 0)):
                self.check_refused(Refused, {"reason": ("nothing",)}, Bench(table), deed)
                self.check_refused(InvalidOperation, {}, Bench(table), (deed[0], 1))

    def test_lines(self):
        for table in (NONE24, EVEN24, ONE24):
            for deed in (("wide", ()), ("wide", (0, 23)), ("long", ()), ("beside", NONE1), ("beside", NONE24)):
                self.check_refused(TooMany, {"limit": 24}, Bench(table), deed)
            for deed in (("wide", (24,)), ("long", (24,)), ("beside", None)):
                self.check_refused(InvalidOperation, {}, Bench(table), deed)
            bench = Bench(table)
            for deed in (("opposite",), ("sum", (0,)), ("lines", tuple(range(24))[::-1]), ("out", 23), ("wide", (3,)),
                         ("join", 0), ("long", ()), ("out", 5), ("beside", ALL1)):
                bench.do(deed)
            self.assertEqual(bench.table.many, 24)
        self.check_refused(TooMany, {"limit": 24}, Bench(Table(18, ())), ("beside", FANO))
        bench = Bench(Table(17, ()))
        bench.do(("beside", FANO))
        self.assertEqual(bench.table.many, 24)

    def test_deeds(self):
        bench = Bench(TWOS)
        before = time.perf_counter()
        for _ in range(100):
            bench.do(("opposite",))
            bench.do(("lines", tuple(range(24))[::-1]))
        self.assertLess(time.perf_counter() - before, 2)
        self.assertEqual((len(bench.deeds), str(bench)), (200, "bench of 24 lines, size 12, 200 deeds"))
        self.check_refused(TooMany, {"limit": 200}, bench, ("opposite",))
        # Too many deeds come ahead of too many lines, and behind what does not fit.
        self.check_refused(TooMany, {"limit": 200}, bench, ("wide", ()))
        self.check_refused(TooMany, {"limit": 200}, bench, ("beside", NONE24))
        self.check_refused(InvalidOperation, {}, bench, ("wide", (24,)))
        bench.undo()
        self.check_refused(TooMany, {"limit": 24}, bench, ("wide", ()))
        bench.do(("opposite",))
        self.assertEqual(len(bench.deeds), 200)
        small = Bench(NONE1)
        for _ in range(200):
            small.do(("opposite",))
        for word in ("out", "join"):
            self.check_refused(Refused, {"reason": ("nothing",)}, small, (word, 0))
        self.check_refused(TooMany, {"limit": 200}, small, ("sum", ()))
        self.check_error(NothingToUndo, {"done": 200}, small.again)
        for _ in range(200):
            small.undo()
        self.check_error(NothingToUndo, {"done": 0}, small.undo)
        self.assertEqual((small.table, small.deeds), (NONE1, ()))

    def test_refused_deeds_keep_what_was_undone(self):
        bench = Bench(Table(23, ()))
        bench.do(("wide", (0,)))
        bench.do(("sum", (1,)))
        bench.undo()
        for deed, error, kept in ((("wide", ()), TooMany, {"limit": 24}), (("out", 24), InvalidOperation, {})):
            self.check_refused(error, kept, bench, deed)
        bench.again()
        self.assertEqual(bench.deeds, (("wide", (0,)), ("sum", (1,))))


class Undone(Case):
    """[23.4]"""

    def test_as_from_nothing(self):
        for table in TABLES[::2] + [FIVE, TEN]:
            bench = Bench(table)
            tables, deeds, undone = [table], [], []
            for _ in range(60):
                roll = CHANCE.random()
                if roll < 0.3:
                    if not deeds:
                        self.check_error(NothingToUndo, {"done": 0}, bench.undo)
                    else:
                        self.assertIsNone(bench.undo())
                        undone.append((tables.pop(), deeds.pop()))
                elif roll < 0.55:
                    if not undone:
                        self.check_error(NothingToUndo, {"done": len(deeds)}, bench.again)
                    else:
                        self.assertIsNone(bench.again())
                        for row, item in zip((tables, deeds), undone.pop()):
                            row.append(item)
                else:
                    deed = some_deed(tables[-1], 10)
                    bench.do(deed)
                    fresh = Bench(tables[-1])
                    fresh.do(deed)
                    tables.append(fresh.table)
                    deeds.append(deed)
                    undone = []
                self.assertEqual((bench.table.many, bench.table.lots), (tables[-1].many, tables[-1].lots))
                self.assertEqual(bench.deeds, tuple(deeds))
                fresh = Bench(bench.table)
                self.assertEqual((fresh.table, fresh.deeds), (bench.table, ()))
                self.assertEqual(fresh.kind(), bench.kind())
                self.assertEqual(fresh.net() is None, bench.net() is None)

    def test_kind_and_net(self):
        for word, table in TOLD.items():
            bench = Bench(table)
            self.assertEqual(bench.kind(), word)
            net = bench.net()
            self.assertTrue(is_net_of(table, net) if word in ("flat", "net") else net is None)
            self.assertEqual((bench.table, bench.deeds), (table, ()))
        bench = Bench(beside(FANO, Table(10, ())))
        self.check_error(TooMany, {"limit": 16}, bench.kind)
        self.assertIsNone(bench.net())
        bench.do(("out", 16))
        self.assertEqual(bench.kind(), "bare")
        self.assertEqual(Bench(NONE24).kind(), "flat")


class Kinds(Case):
    """[23.2]"""

    def test_above(self):
        for one, other in itertools.product(KINDS, repeat=2):
            both = ABOVE[one] & ABOVE[other]
            told = [word for word in both if both <= ABOVE[word]]
            self.assertEqual([kind_above(one, other)], told)
            self.assertEqual(kind_by((one, other)), told[0])

    def test_out_and_join(self):
        for told in list(TOLD.values()) + [beside(FIVE, NONE1), opposite(TEN), opposite(FANO)]:
            for word, line in itertools.product(("out", "join"), range(told.many)):
                bench = Bench(told)
                before = bench.kind()
                bench.do((word, line))
                self.assertIn(before, ABOVE[bench.kind()])

    def test_others(self):
        changed = {"net": "opposite", "opposite": "net"}
        for word, told in TOLD.items():
            bench = Bench(told)
            bench.do(("lines", tuple(CHANCE.sample(range(told.many), told.many))))
            self.assertEqual(bench.kind(), word)
            bench.do(("opposite",))
            self.assertEqual(bench.kind(), changed.get(word, word))
        for (one, first), (other, second) in itertools.product(TOLD.items(), repeat=2):
            bench = Bench(first)
            bench.do(("beside", second))
            if first.many + second.many < 17 or kind_above(one, other) in ("flat", "net", "opposite"):
                self.assertEqual(bench.kind(), kind_above(one, other))
            self.assertEqual(kind_by(kinds_of_parts(bench.table)), kind_above(one, other))

    def test_to_any_kind(self):
        # "wide", "long" and "sum" lead up, and by "sum" and "long" down, too.
        self.assertEqual(self.led(Table(7, FANO.lots[:3]), ("sum", FANO.lots[3])), ("flat", "bare"))
        self.assertEqual(self.led(Table(6, ((0, 1, 3), (1, 2, 4), (2, 3, 5))), ("wide", (3, 4))), ("flat", "bare"))
        six = Table(6, tuple(told_anew([k for k in lot if k != 6], range(6)) for lot in FANO.form))
        pick = tuple(k for k, lot in enumerate(FANO.form) if 6 in lot)
        self.assertEqual(six.form, tuple(lot[:-1] if 6 in lot else lot for lot in FANO.form))
        self.assertEqual(self.led(six, ("long", pick)), ("flat", "bare"))

    def led(self, table, deed):
        bench = Bench(table)
        before = bench.kind()
        bench.do(deed)
        return before, bench.kind()

    def test_signs_of_parts(self):
        for table in [beside(ROUNDS, FANO), beside(TEN, ROUNDS), beside(BOTH, SIX)]:
            whole = sign_count(table) > 0
            told = kinds_of_parts(table)
            self.assertEqual(whole, "bare" not in told)
            self.assertEqual(len(told), len(parts(table)))

    def test_wrong(self):
        no_kinds = ["five", "Flat", "", None, True, 0, (), ("flat",), ["flat"], {}, FANO, "flats", 10 ** 60, KINDS,
                    WHEEL]
        for value in no_kinds:
            for call in ((value, "net"), ("net", value), (value, "x"), (value, None)):
                with self.assertRaises(UnknownName) as caught:
                    kind_above(*call)
                self.assertIs(caught.exception.wanted, value)


class LedNets(Case):
    """[23.3]"""

    def test_led(self):
        for net in NETS + [unlike_net(CHANCE, net) for net in NETS]:
            many = len(net.lines)
            deeds = [("lines", tuple(CHANCE.sample(range(many), many))) for _ in range(2)]
            if many > 1:
                deeds += [(word, line) for word in ("out", "join") for line in range(many)]
            for deed in deeds:
                told = led_net(net, deed)
                bench = Bench(table_of(net))
                bench.do(deed)
                self.assertEqual(table_of(told), bench.table)
                self.assertIs(is_led_net(net, deed, told), True)
                self.assertIs(is_led_net(net, deed, unlike_net(CHANCE, told)), True)
                self.assertIs(is_led_net(net, deed, net), False if deed[0] != "lines" else bench.table == table_of(net))
                if deed[0] == "lines":
                    self.assertEqual(told, Net(net.knots, tuple(net.lines[line] for line in deed[1])))
                else:
                    self.assertEqual(told, (net_out if deed[0] == "out" else net_join)(net, deed[1]))

    def test_names(self):
        # The knots of a joined line become one, at the place of the lesser one; a loop just goes.
        net = Net(5, ((1, 3), (0, 4), (2, 2), (1, 3), (3, 4)))
        self.assertEqual(led_net(net, ("join", 0)), Net(4, ((0, 3), (2, 2), (1, 1), (1, 3))))
        self.assertEqual(led_net(net, ("join", 2)), Net(5, ((1, 3), (0, 4), (1, 3), (3, 4))))
        self.assertEqual(led_net(net, ("out", 1)), Net(5, ((1, 3), (2, 2), (1, 3), (3, 4))))
        self.assertEqual(led_net(net, ("lines", (4, 3, 2, 1, 0))), Net(5, net.lines[::-1]))

    def test_judge_takes_nothing_else(self):
        told = led_net(WHEEL, ("join", 0))
        self.check_takes(is_led_net, (WHEEL, ("join", 0)), told)
        for deed in (("join", 0), ("out", 3), ("lines", (5, 4, 3, 2, 1, 0))):
            self.check_never(is_led_net, (WHEEL, deed))
            for value in STRANGE:
                self.assertIs(is_led_net(WHEEL, deed, value), False)

    def test_wrong(self):
        deeds = [None, (), ("out", 6), ("out", -1), ("join", True), ("out",), ("lines", (0, 1, 2, 3, 4)), ("opposite",),
                 ("lines", (0,) * 6), ("wide", (0,)), ("sum", (0, 1)), ("beside", ROUNDS), ("long", ()), ["out", 0],
                 "out",
                 ("lines", [0, 1, 2, 3, 4, 5]), ("lines", (True, 0, 2, 3, 4, 5)), FANO, {}, 3, ("out", 0, 0)]
        wrongs = [(InvalidNet, NOT_NETS), (InvalidOperation, deeds)]
        self.check_wrong(led_net, (WHEEL, ("out", 0)), wrongs)
        self.check_judge_wrong(is_led_net, (WHEEL, ("out", 0)), net_out(WHEEL, 0), wrongs)
        one = Net(2, ((0, 1),))
        for function, more in ((led_net, ()), (is_led_net, (None,))):
            for word in ("out", "join"):
                self.check_error(Refused, {"reason": ("nothing",)}, function, one, (word, 0), *more)
                self.check_error(InvalidOperation, {}, function, one, (word, 1), *more)
            function(one, ("lines", (0,)), *more)

    def test_great(self):
        net = hanging_net(CHANCE, 14, 24)
        while len(net.lines) > 1:
            deed = (CHANCE.choice(("out", "join")), CHANCE.randrange(len(net.lines)))
            table = lesser(table_of(net), deed)
            net = led_net(net, deed)
            self.assertEqual(table_of(net), table)
        self.assertEqual(led_net(whole_net(7), ("join", 20)).knots, 6)


class NotTrue(Case):
    """[23.5]"""

    def test_sum_goes_down(self):
        bench = Bench(FANO)
        bench.do(("sum", (0,)))
        self.assertEqual((kind(FANO), bench.kind()), ("bare", "flat"))

    def test_undone_is_done_again(self):
        bench = Bench(FANO)
        bench.do(("out", 0))
        bench.undo()
        bench.again()
        self.assertEqual(bench.deeds, (("out", 0),))

    def test_long_of_a_net(self):
        six = lesser(FANO, ("join", 6))
        self.assertIsNotNone(net_of(six))
        bench = Bench(six)
        bench.do(("long", tuple(k for k, lot in enumerate(FANO.form) if 6 in lot)))
        self.assertEqual((bench.table, bench.net()), (FANO, None))
