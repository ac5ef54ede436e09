"""Stage 24: claims, and one judge."""

import functools
import itertools
import random
import time
from unittest import mock

import ringtables.judge.claims as module
import ringtables.main.bars as bars
import ringtables.main.found as found_module
import ringtables.sign.signs as signs_module
from ringtables.errors import InvalidClaim, InvalidOperation, TooMany, UnknownName
from ringtables.judge.claims import does_take, is_claim, led_paper, opposite_claim, settled
from ringtables.main.bars import is_bar, net_or_bar, told_table
from ringtables.main.found import is_net_or_stop, net_of, net_or_stop
from ringtables.main.kinds import flat_or_bar, is_flat_or_bar
from ringtables.more.ways import closed
from ringtables.net.nets import Net, is_net_of, table_of
from ringtables.sign.signs import are_right_signs, net_signs, sign_count, signs_or_bar
from ringtables.table.parts import beside
from ringtables.table.tables import Table, opposite
from ringtables.wish.lists import list_of_table
from tests.support import ALL1, BOTH, CROSS, EVEN24, FANO, NONE1, NONE24, NOT_TABLES, ONE24, ROUNDS, SPLIT, STARS
from tests.support import STRANGE, TWOS, WHEEL, Case, bridges_by, clashes_by, cuts_by, hanging_net, is_row_by, not_lots
from tests.support import not_numbers, odd, picked_tables, rings_of, rows_by, sides_by, small_tables, subsets
from tests.support import sums_of, table_sums, twists, unlike_net, whole_net
from tests.test_lists import BRIDGE, EACH12, LISTS, ONE, TWO, WIDE, is_odd_by, not_lists
from tests.test_poles import DELTA, does_by
from tests.test_signs import RIGHT, TEN
from tests.test_ways import ways_by

CHANCE = random.Random(151)
FIVE, SIX, FOURS = told_table("five"), told_table("six"), opposite(FANO)
WORDS = {"sum": "test", "ring": "cut", "even": "odd", "net": "stopped", "free": "barred", "signed": "bare",
         "flat": "bent",
         "done": "undone", "way": "no way", "each": "some"}
LED = [("flat", "net"), ("flat", "free"), ("flat", "signed"), ("net", "signed"), ("free", "signed"), ("bare", "barred"),
       ("barred", "bent")]
NAMES = tuple(range(7))
TABLES = small_tables(2) + picked_tables(152, 12, 3, 7) + [FANO, FOURS, ROUNDS, BOTH, SPLIT, FIVE, SIX, TEN,
                                                         opposite(SIX), STARS, beside(FANO, ROUNDS)]
TABLES += [table_of(hanging_net(CHANCE, 5, 8)) for _ in range(6)]


def some_lot(many, chance=0.4):
    return tuple(k for k in range(many) if CHANCE.random() < chance)


def claims_about(table):
    """Claims with the first word of each pair."""
    line = CHANCE.randrange(table.many)
    lots = [some_lot(table.many), CHANCE.choice(sorted(table_sums(table)))]
    found = [("sum", table, lot) for lot in lots]
    found += [("ring", table, line, tuple(k for k in some_lot(table.many, 0.6) if k != line)) for _ in range(2)]
    found += [("even", table, cut) for cut in cuts_by(table)[:3]]
    found += [("net", table), ("free", table), ("flat", table)]
    if table.many < 17:
        found.append(("signed", table))
    found += [("way", table, lot) for lot in [some_lot(table.many, 0.3), (line,)] if lot]
    return found


LONE = [claim for table in TABLES for claim in claims_about(table)]
LONE += [("even", STARS, (0, 2, 4, 7)), ("way", ROUNDS, (0, 5))]
LONE += [("done", wishes) for wishes in LISTS[::5] + [TWO, BRIDGE, ONE, list_of_table(FANO, 0), list_of_table(FIVE, 0)]]
BOTHS = LONE + [(WORDS[claim[0]],) + claim[1:] for claim in LONE]


def is_true(claim):
    """Whether a claim about a table, or a list, is true, by what it says."""
    word, about, things = claim[0], claim[1], claim[2:]
    if word in WORDS.values():
        return not is_true(({second: first for first, second in WORDS.items()}[word],) + claim[1:])
    if word == "sum":
        return things[0] in table_sums(about)
    if word == "ring":
        return any(things[0] in ring and set(ring) <= {things[0], *things[1]} for ring in rings_of(table_sums(about)))
    if word == "even":
        return bool(sides_by(len(bridges_by(about, things[0])), clashes_by(about, things[0])))
    if word in ("net", "free"):
        return net_of(about) is not None
    if word == "signed":
        return sign_count(about) > 0
    if word == "flat":
        return net_of(about) is not None and net_of(opposite(about)) is not None
    if word == "done":
        many = max(k for wish in about for k in wish) + 1
        return is_odd_by(about) and net_of(Table(many + 1, tuple(form_with(about, many)))) is not None
    rings = [ring for ring in rings_of(table_sums(about)) if set(ring) <= set(things[0])]
    return not rings and net_of(closed(about, things)) is not None


def form_with(wishes, many):
    """Lots that have the sums of the wishes with the pole line."""
    lots, sums = [], {()}
    for wish in wishes:
        if wish + (many,) not in sums:
            lots.append(wish + (many,))
            sums = sums_of(lots)
    return lots


@functools.lru_cache(None)
def known(many, form):
    """The rings and the cuts of a table, told once."""
    table = Table(many, form)
    return rings_of(table_sums(table)), cuts_by(table)


@functools.lru_cache(None)
def told_bridges(many, form, cut):
    """The number of the bridges of a cut, and which of them clash, told once."""
    table = Table(many, form)
    return len(bridges_by(table, cut)), clashes_by(table, cut)


def is_paper(claim, value):
    """Whether a value of the right form is a paper of a claim, by what the claim says."""
    word, about, things = claim[0], claim[1], claim[2:]
    if word == "sum":
        return [sum(line in about.form[k] for k in value) % 2 for line in range(about.many)] == [
            int(line in things[0]) for line in range(about.many)]
    if word == "test":
        return odd(value, things[0]) and not any(odd(value, lot) for lot in about.lots)
    rings, told = known(about.many, about.form)
    if word == "ring":
        return value in rings and things[0] in value and set(value) <= {things[0], *things[1]}
    if word == "cut":
        return value in told and things[0] in value and not set(value) & set(things[1])
    many, pairs = told_bridges(about.many, about.form, things[0])
    return value in sides_by(many, pairs) if word == "even" else is_row_by(many, pairs, value)


class Claims(Case):
    """[24.1]"""

    def test_constants(self):
        self.assertEqual(module.MOST_CLAIMS, 8)
        told = {**WORDS, **{second: first for first, second in WORDS.items()}}
        self.assertEqual(module.OPPOSITES, told)
        self.assertEqual(list(module.OPPOSITES), sorted(told))

    def test_opposites(self):
        for claim in BOTHS:
            self.assertIs(is_claim(claim), True, claim)
            told = opposite_claim(claim)
            self.assertEqual(told, (module.OPPOSITES[claim[0]],) + claim[1:])
            self.assertEqual(opposite_claim(told), claim)
        for _ in range(30):
            claims = tuple(CHANCE.choice(BOTHS) for _ in range(CHANCE.randint(1, 8)))
            for word, other in (("each", "some"), ("some", "each")):
                self.assertIs(is_claim((word, claims)), True)
                self.assertEqual(opposite_claim((word, claims)), (other, tuple(opposite_claim(one) for one in claims)))

    def test_no_claims(self):
        wrong = [("nets", FANO), ("net",), ("net", FANO, ()), ("net", WHEEL), ["net", FANO], ("each", ()),
                 ("each", FANO),
                 ("each", (("net", FANO),) * 9), ("some", ()), ("some", [("net", FANO)]), ("each", ("net", FANO)),
                 ("each", (("each", (("net", FANO),)),)), ("some", (("each", (("net", FANO),)),)),
                 ("each", (("net", FANO), ("net", WHEEL))), ("each",), ("each", (("net", FANO),), ()),
                 ("way", FANO, ()),
                 ("no way", FANO, ()), ("way", NONE24, (0,)), ("no way", ONE24, (0,)), ("way", FANO, (7,)),
                 ("even", FANO, ()), ("odd", ROUNDS, (0, 1)), ("even", FANO, (0, 1, 3)), ("ring", FANO, 7, ()),
                 ("ring", FANO, 0, (0, 1)), ("cut", FANO, 1, (0, 1)), ("ring", FANO, 0, (7,)), ("ring", FANO, 0),
                 ("cut", FANO, True, ()), ("sum", FANO), ("sum", FANO, (7,)), ("test", FANO, [0]),
                 ("test", FANO, (0,), ()),
                 ("done", ((1,),)), ("undone", ()), ("done", FANO), ("done", TWO, TWO), ("signed", Table(17, ())),
                 ("bare", NONE24), ("flat", None), ("bent", (FANO,)), (True, FANO), ("", FANO), (("net",), FANO),
                 ([], FANO)]
        for claim in wrong + NOT_TABLES + not_lists() + list(STRANGE):
            self.check_refused(claim)
        for word in WORDS:
            if word not in ("each", "some", "done"):
                for table in NOT_TABLES:
                    self.check_refused((word, table))
                    self.check_refused((word, table, (0,)))
                    self.check_refused((word, table, 0, ()))
        for wishes in not_lists():
            self.check_refused(("done", wishes))
            self.check_refused(("undone", wishes))
        for lot in not_lots(6):
            for claim in (("sum", ROUNDS, lot), ("test", ROUNDS, lot), ("even", ROUNDS, lot), ("odd", ROUNDS, lot),
                          ("way", ROUNDS, lot), ("no way", ROUNDS, lot), ("ring", ROUNDS, 5, lot),
                          ("cut", ROUNDS, 5, lot)):
                self.check_refused(claim)
        for line in not_numbers(0, 5):
            self.check_refused(("ring", ROUNDS, line, ()))
            self.check_refused(("cut", ROUNDS, line, ()))

    def check_refused(self, claim):
        self.assertIs(is_claim(claim), False, claim)
        self.assertIs(does_take(claim, WHEEL), False)
        self.check_error(InvalidClaim, {}, opposite_claim, claim)
        self.check_error(InvalidClaim, {}, settled, claim)
        self.check_error(InvalidClaim, {}, led_paper, claim, WHEEL, "signed")
        self.check_error(InvalidClaim, {}, led_paper, claim, None, None)

    def test_bent_claims(self):
        for claim in [CHANCE.choice([one for one in BOTHS if one[0] == word]) for word in module.OPPOSITES
                      if word not in ("each", "some")] + [("each", (("net", FANO), ("sum", ROUNDS, (0, 1)))),
                                                          ("some", (("cut", ROUNDS, 1, (0, 2)),))]:
            self.assertIs(is_claim(claim), True)
            for other in twists(claim):
                self.assertIs(is_claim(other), False, other)
                self.assertIs(does_take(other, WHEEL), False)

    def test_edges(self):
        for claim in [("each", (("net", FANO),)), ("some", (("net", FANO),) * 8),
                      ("way", Table(23, ()), tuple(range(23))),
                      ("signed", Table(16, ())), ("bare", Table(16, ())), ("net", NONE24), ("sum", NONE24, ()),
                      ("ring", NONE1, 0, ()), ("cut", ALL1, 0, ()), ("even", NONE1, (0,)), ("done", WIDE)]:
            self.assertIs(is_claim(claim), True)


class Papers(Case):
    """[24.1]"""

    def test_lots(self):
        for claim in [claim for claim in BOTHS if claim[0] in ("sum", "test", "ring", "cut")]:
            many = claim[1].many
            if many < 9:
                lots = subsets(range(claim[1].size if claim[0] == "sum" else many))
                taken = self.check_judged(does_take, (claim,), lots + [(many,), (0, 0)], lambda value: (
                    value in lots and is_paper(claim, value)))
                self.assertEqual(taken > 0, is_true(claim))

    def test_sides_and_rows(self):
        taken = 0
        for claim in [claim for claim in BOTHS if claim[0] in ("even", "odd")]:
            many, pairs = told_bridges(claim[1].many, claim[1].form, claim[2])
            if many < 5:
                values = list(itertools.product((0, 1), repeat=many)) + rows_by(many, pairs) + [()]
                values += list(itertools.permutations(range(many), min(many, 3)))
                told = self.check_judged(does_take, (claim,), values, lambda value: is_paper(claim, value))
                self.assertEqual(told > 0, is_true(claim))
                taken += claim[0] == "odd" and told > 0
        self.assertGreater(taken, 0)

    def test_nets_and_bars(self):
        for table in TABLES:
            net, bar, stop = net_of(table), net_or_bar(table), net_or_stop(table)
            for word in ("net", "free"):
                self.assertIs(does_take((word, table), net), net is not None)
                if net is not None:
                    self.assertIs(does_take((word, table), unlike_net(CHANCE, net)), True)
                self.assertIs(does_take((word, table), ("net", net)), False)
            self.assertIs(does_take(("barred", table), bar[1]), bar[0] == "bar")
            self.assertIs(does_take(("stopped", table), stop[1:]), stop[0] == "stop")
            self.assertIs(does_take(("stopped", table), stop), False)
            self.assertIs(does_take(("barred", table), bar), False)

    def test_signs_and_bars(self):
        for table in [table for table in TABLES if table.many < 17]:
            told = signs_or_bar(table)
            self.assertIs(does_take(("signed", table), told[1]), told[0] == "signs")
            self.assertIs(does_take(("bare", table), told), told[0] != "signs")
        self.assertIs(does_take(("bare", beside(FANO, SIX)), ("six", (("out", 0),) * 7, tuple(range(9)))), False)
        self.assertIs(does_take(("barred", beside(FANO, SIX)), ("six", (("out", 0),) * 7, tuple(range(9)))), True)

    def test_flat_and_bent(self):
        for table in TABLES:
            told = flat_or_bar(table)
            self.assertIs(does_take(("flat", table), told[1:]), told[0] == "flat")
            self.assertIs(does_take(("bent", table), told), told[0] != "flat")
            self.assertIs(does_take(("flat", table), told), False)
            if told[0] == "flat":
                self.assertIs(does_take(("flat", table), told[:0:-1]), table == opposite(table))

    def test_wishes(self):
        for wishes in [claim[1] for claim in LONE if claim[0] == "done"]:
            claim, value = settled(("done", wishes))
            self.assertEqual(claim[0] == "done", is_true(("done", wishes)))
            if claim[0] == "done":
                self.assertTrue(does_by(value, wishes))
                self.assertIs(does_take(("undone", wishes), ("net", value)), False)
            else:
                self.assertIn(value[0], ("even", "barred"))
        self.check_takes(does_take, (("done", BRIDGE),), DELTA)
        self.check_takes(does_take, (("undone", TWO),), ("even", (0, 1), (0, 1)))

    def test_ways(self):
        for claim in [claim for claim in LONE if claim[0] == "way"]:
            told, value = settled(claim)
            if told[0] == "way":
                self.assertIn(claim[2], ways_by(value))
                self.assertIs(is_net_of(claim[1], value), True)
                self.assertIs(does_take(("no way",) + claim[1:], ("way", value)), False)
            else:
                self.assertIn(value[0], ("ring", "bar"))

    def test_takes_nothing_else(self):
        for claim in [CHANCE.choice([one for one in BOTHS if one[0] == word and is_true(one)])
                      for word in module.OPPOSITES if word not in ("each", "some")]:
            told, value = settled(claim)
            self.assertEqual(told, claim)
            self.check_takes(does_take, (claim,), value)
            if value != ():
                self.check_none(claim)
        for claim in BOTHS[::9]:
            for value in STRANGE:
                self.assertIn(does_take(claim, value), (True, False))
                self.assertIn(does_take(value, claim), (False,))
                for deep in (("each", (claim, value)), ("some", (value,)), (claim[0], value)):
                    if not is_claim(deep):
                        self.assertIs(does_take(deep, value), False)

    def check_none(self, claim):
        for value in (None, True, "sum", [], {}, FANO, [()]):
            self.assertIs(does_take(claim, value), False)


class JustOne(Case):
    """[24.2]"""

    def test_just_one(self):
        told = {}
        for claim in BOTHS:
            true, value = settled(claim)
            self.assertEqual(true, claim if is_true(claim) else opposite_claim(claim))
            self.assertIs(does_take(true, value), True)
            self.assertIs(does_take(opposite_claim(true), value), False)
            self.assertEqual(settled(opposite_claim(claim))[0], true)
            told.setdefault(true[0], []).append(true)
        self.assertEqual(set(told), set(module.OPPOSITES) - {"each", "some"})

    def test_each_and_some(self):
        for _ in range(60):
            claims = tuple(CHANCE.choice(BOTHS) for _ in range(CHANCE.randint(1, 4)))
            if CHANCE.random() < 0.6:
                claims = tuple(one if is_true(one) == (len(claims) % 2 == 0) else opposite_claim(one) for one in claims)
            true, value = settled(("each", claims))
            if all(map(is_true, claims)):
                self.assertEqual((true, len(value)), (("each", claims), len(claims)))
            else:
                self.assertEqual(true, ("some", tuple(map(opposite_claim, claims))))
                self.assertIs(is_true(claims[value[0]]), False)
            self.assertIs(does_take(true, value), True)
            self.assertIs(does_take(opposite_claim(true), value), False)
            true, value = settled(("some", claims))
            if any(map(is_true, claims)):
                self.assertEqual(true, ("some", claims))
                self.assertIs(is_true(claims[value[0]]), True)
            else:
                self.assertEqual((true, len(value)), (("each", tuple(map(opposite_claim, claims))), len(claims)))
            self.assertIs(does_take(true, value), True)

    def test_any_paper(self):
        claims = (("sum", ROUNDS, (0, 1, 3)), ("net", ROUNDS), ("odd", ROUNDS, CROSS), ("even", SPLIT, CROSS))
        self.assertIs(does_take(("some", claims), (0, (0, 1, 2))), True)
        self.assertIs(does_take(("some", claims), (1, WHEEL)), True)
        for bits in itertools.product((0, 1), repeat=3):
            self.assertIs(does_take(("some", claims), (3, bits)), bits in ((0, 1, 0), (1, 0, 1), (0, 1, 1), (1, 0, 0)))
        for value in ((0, WHEEL), (2, WHEEL), (4, WHEEL), (-3, WHEEL), (True, WHEEL), (1,), (1, WHEEL, 0), [1, WHEEL],
                      WHEEL, (1, (WHEEL,)), (("net",), WHEEL), (None, WHEEL)):
            self.assertIs(does_take(("some", claims), value), False)
        pair = claims[:2]
        self.assertIs(does_take(("each", pair), ((0, 1, 2), WHEEL)), True)
        for value in ((WHEEL, (0, 1, 2)), ((0, 1, 2),), ((0, 1, 2), WHEEL, WHEEL), [(0, 1, 2), WHEEL], WHEEL, (),
                      ((0, 1, 2), [WHEEL])):
            self.assertIs(does_take(("each", pair), value), False)
        self.check_takes(does_take, (("each", pair),), ((0, 1, 2), WHEEL))
        self.check_takes(does_take, (("some", pair),), (1, WHEEL))
        for claim in (("each", pair), ("some", pair), ("each", pair[:1])):
            self.check_never(does_take, (claim,))

    def test_great(self):
        tables = [NONE24, EVEN24, ONE24, TWOS, table_of(hanging_net(CHANCE, 14, 24)), beside(FANO, Table(17, ())),
                  beside(FIVE, opposite(FIVE)), table_of(whole_net(7))] + picked_tables(153, 4, 23, 24)
        for word in ("net", "free", "flat", "stopped", "barred", "bent"):
            for table in tables:
                claim = ("each", ((word, table),) * 8)
                before = time.perf_counter()
                true, value = settled(claim)
                self.assertIs(does_take(true, value), True)
                self.assertLess(time.perf_counter() - before, 4)
        sixteen = Table(16, tuple(tuple(sorted([k] + [line for line in range(8, 16) if CHANCE.random() < 0.5]))
                                  for k in range(8)))
        hanging = table_of(hanging_net(CHANCE, 9, 16))
        for claims in (("each", (("signed", sixteen),) * 8), ("some", (("bare", hanging),) * 8),
                       ("each", (("done", WIDE), ("done", EACH12))), ("some", (("undone", EACH12),) * 8)):
            before = time.perf_counter()
            true, value = settled(claims)
            self.assertIs(does_take(true, value), True)
            self.assertLess(time.perf_counter() - before, 4)


class NoSearch(Case):
    """[24.3]"""

    def test_judge_searches_for_nothing(self):
        told = [settled(claim) for claim in BOTHS[::3]]

        def fail(*args):
            raise AssertionError("the judge searched")
        with mock.patch.object(found_module, "ends_or_stop", fail), mock.patch.object(bars, "ends_or_stop", fail), \
                mock.patch.object(bars, "least_bar", fail), mock.patch.object(signs_module, "least_bar", fail), \
                mock.patch.object(signs_module, "_numbers", fail):
            with self.assertRaises(AssertionError):
                net_of(FANO)
            for claim, value in told:
                self.assertIs(does_take(claim, value), True)
                self.assertIs(does_take(opposite_claim(claim), value), False)


class Led(Case):
    """[24.4]"""

    def test_led(self):
        seen = set()
        for claim in BOTHS:
            true, value = settled(claim)
            for word in module.OPPOSITES:
                if (true[0], word) not in LED:
                    self.check_error(UnknownName, {"wanted": word}, led_paper, true, value, word)
                elif word == "signed" and true[1].many > 16:
                    self.check_error(TooMany, {"limit": 16}, led_paper, true, value, word)
                else:
                    told = led_paper(true, value, word)
                    self.assertIs(does_take((word, true[1]), told), True)
                    seen.add((true[0], word))
            self.check_error(InvalidOperation, {}, led_paper, opposite_claim(true), value, "signed")
        self.assertEqual(seen, set(LED))

    def test_as_told(self):
        net, other = settled(("flat", ROUNDS))[1]
        self.assertEqual(led_paper(("flat", ROUNDS), (WHEEL, other), "net"), WHEEL)
        self.assertEqual(led_paper(("flat", ROUNDS), (WHEEL, other), "free"), WHEEL)
        for claim, value in ((("flat", ROUNDS), (WHEEL, other)), (("net", ROUNDS), WHEEL), (("free", ROUNDS), WHEEL)):
            self.assertEqual(led_paper(claim, value, "signed"), net_signs(WHEEL))
        self.assertIs(are_right_signs(ROUNDS, RIGHT), True)
        bar = ("seven", (), NAMES)
        self.assertEqual(led_paper(("bare", FANO), bar, "barred"), bar)
        self.assertEqual(led_paper(("barred", FANO), bar, "bent"), ("table", bar))
        self.assertIs(is_flat_or_bar(FANO, ("table", bar)), True)

    def test_wrong(self):
        words = ["nets", "", None, True, 3, [], ("signed",), {}, FANO, WHEEL, "Signed", "flat", "bent", "barred", "sum"]
        values = [None, 3, FANO, (WHEEL,), [WHEEL], Net(1, ((0, 0),)), "net", {}, True]
        self.check_wrong(led_paper, (("net", ROUNDS), WHEEL, "x"), [
            (InvalidClaim, [None, ("nets", ROUNDS), ["net", ROUNDS], ("net", WHEEL), FANO, ("net", ROUNDS, ())]),
            (InvalidOperation, values)])
        for word in words:
            self.check_error(UnknownName, {"wanted": word}, led_paper, ("net", ROUNDS), WHEEL, word)
            for value in values:
                self.check_error(InvalidOperation, {}, led_paper, ("net", ROUNDS), value, word)
        self.check_error(UnknownName, {"wanted": "net"}, led_paper, ("each", (("net", ROUNDS),)), (WHEEL,), "net")
        self.check_error(UnknownName, {"wanted": "bent"}, led_paper, ("bare", FANO), ("seven", (), NAMES), "bent")

    def test_seventeen(self):
        net = whole_net(7)
        for word in ("net", "free"):
            self.check_error(TooMany, {"limit": 16}, led_paper, (word, table_of(net)), net, "signed")
            self.check_error(UnknownName, {"wanted": "bent"}, led_paper, (word, table_of(net)), net, "bent")
            self.check_error(InvalidOperation, {}, led_paper, (word, table_of(net)), WHEEL, "signed")
        told = settled(("flat", NONE24))[1]
        self.check_error(TooMany, {"limit": 16}, led_paper, ("flat", NONE24), told, "signed")
        self.assertEqual(led_paper(("flat", NONE24), told, "net"), told[0])
        sixteen = Table(16, ())
        self.assertEqual(led_paper(("net", sixteen), net_of(sixteen), "signed"), ())


class NotTrue(Case):
    """[24.5]"""

    def test_one_paper(self):
        self.assertIs(does_take(("net", ROUNDS), WHEEL), True)
        self.assertIs(does_take(("net", ROUNDS), Net(5, WHEEL.lines)), True)

    def test_paper_of_an_unlike_claim(self):
        self.assertIs(does_take(("free", ROUNDS), WHEEL), True)
        self.assertIs(does_take(("way", ROUNDS, (0, 4)), WHEEL), True)
        self.assertIs(does_take(("net", ROUNDS), WHEEL), True)

    def test_of_the_opposite(self):
        # The opposite word of "net" is "stopped"; but a flat table and its opposite are both nets'.
        self.assertEqual(settled(("net", ROUNDS))[0][0], "net")
        self.assertEqual(settled(("stopped", opposite(ROUNDS)))[0][0], "net")

    def test_bars_of_stages(self):
        self.assertIs(is_bar(FANO, settled(("free", FANO))[1]), True)
        self.assertIs(is_net_or_stop(FANO, ("stop",) + settled(("net", FANO))[1]), True)
