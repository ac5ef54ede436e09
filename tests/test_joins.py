"""Stage 20: lists and nets put together."""

import itertools
import random
import time

from ringtables.errors import InvalidList, InvalidNet, InvalidNumber, InvalidOperation, TooMany
from ringtables.net.nets import Net
from ringtables.wish.joins import is_recipe, is_recipe_or_pair, list_and, list_of_recipe, list_or, list_put, net_and
from ringtables.wish.joins import net_of_recipe, net_or, net_put, recipe_or_pair
from ringtables.wish.lists import cuts_of, is_list, odd_or_pair
from ringtables.wish.poles import net_or_paper, ways, wishes_of
from tests.support import FANO, NOT_NETS, STRANGE, WHEEL, Case, not_numbers, subsets
from tests.test_lists import ALL12, BRIDGE, EACH12, FOURS12, LISTS, ONE, PAIRS12, TWO, WIDE, contacts, cuts_by_trial
from tests.test_lists import is_odd_by, not_lists
from tests.test_poles import DELTA, NETS, does_by, ways_by, wishes_are

CHANCE = random.Random(111)
SMALL = sorted({wishes for wishes in LISTS if len(contacts(wishes)) < 6 and len(wishes) < 10}) + [TWO]
PAIRS = [(CHANCE.choice(SMALL), CHANCE.choice(SMALL)) for _ in range(80)] + [(ONE, ONE), (ONE, TWO), (TWO, BRIDGE)]
FIVE2 = tuple(itertools.combinations(range(5), 2))
SIX2 = tuple(itertools.combinations(range(6), 2))
ELEVEN5 = tuple(itertools.combinations(range(11), 5))
LINE = Net(2, ((0, 1),))


def shifted(wishes, many):
    return [tuple(contact + many for contact in wish) for wish in wishes]


def unions(wishes, others):
    return sorted(tuple(sorted(set(a) | set(b))) for a in wishes for b in others)


def put_by(wishes, contact, others):
    """The list with others in the place of a contact, by what conducts: contacts are renamed at last."""
    many = len(contacts(wishes))
    more = [tuple(many + k for k in wish) for wish in others]
    found = []
    for wish in wishes:
        rest = tuple(k for k in wish if k != contact)
        found += [rest + wish2 for wish2 in more] if contact in wish else [wish]
    names = [k for k in range(many + len(contacts(others))) if k != contact]
    return tuple(sorted(tuple(sorted(names.index(k) for k in wish)) for wish in found))


def some_recipe(many):
    parts = [(k,) for k in CHANCE.sample(range(many), many)]
    while len(parts) > 1:
        one = parts.pop(CHANCE.randrange(len(parts)))
        other = parts.pop(CHANCE.randrange(len(parts)))
        parts.append(one + other + (CHANCE.choice(("and", "or")),))
    return parts[0]


def conducts(recipe, shut):
    """What a recipe tells of shut contacts, as and, or."""
    stack = []
    for item in recipe:
        if isinstance(item, str):
            one, other = stack.pop(), stack.pop()
            stack.append(one and other if item == "and" else one or other)
        else:
            stack.append(item in shut)
    return stack.pop()


RECIPES = [some_recipe(CHANCE.randint(1, 7)) for _ in range(60)] + [some_recipe(12) for _ in range(6)]


class AndOr(Case):
    """[20.1]"""

    def test_lists(self):
        for one, other in PAIRS:
            many = len(contacts(one))
            both, either = list_and(one, other), list_or(one, other)
            self.assertEqual(list(both), unions(one, shifted(other, many)))
            self.assertEqual(list(either), sorted(list(one) + shifted(other, many)))
            self.assertTrue(is_list(both) and is_list(either))

    def test_cuts(self):
        for one, other in PAIRS:
            many = len(contacts(one))
            first, second = cuts_by_trial(one), shifted(cuts_by_trial(other), many)
            self.assertEqual(list(cuts_of(list_and(one, other))), sorted(list(first) + second))
            self.assertEqual(list(cuts_of(list_or(one, other))), unions(first, second))

    def test_odd(self):
        told = set()
        for one, other in PAIRS:
            right = is_odd_by(one) and is_odd_by(other)
            told.add(right)
            for wishes in (list_and(one, other), list_or(one, other)):
                self.assertEqual(odd_or_pair(wishes) == ("odd",), right)
        self.assertEqual(told, {True, False})

    def test_edges(self):
        self.assertEqual([list_and(ONE, ONE), list_or(ONE, ONE)], [((0, 1),), ((0,), (1,))])
        self.assertEqual(list_or(EACH12[:11], ONE), EACH12)
        self.assertEqual(list_and((tuple(range(6)),), (tuple(range(6)),)), ALL12)
        self.assertEqual(len(list_and(FIVE2, FIVE2)), 100)
        self.assertEqual(len(list_or(ELEVEN5[:99], ONE)), 100)
        for one, other in ((EACH12, ONE), (ONE, ALL12), (PAIRS12[:3], tuple(itertools.combinations(range(7), 2))),
                           (FOURS12, FOURS12), (WIDE, WIDE), (WIDE, ONE)):
            for function in (list_and, list_or):
                self.check_error(TooMany, {"limit": 12}, function, one, other)
        self.check_error(TooMany, {"limit": 100}, list_and, SIX2, FIVE2)
        self.check_error(TooMany, {"limit": 100}, list_and, FIVE2, SIX2)
        self.check_error(TooMany, {"limit": 100}, list_or, ELEVEN5[:100], ONE)
        self.check_error(TooMany, {"limit": 100}, list_or, ONE, ELEVEN5[:100])
        self.assertEqual(len(list_and(ELEVEN5[:100], ONE)), 100)

    def test_wrong(self):
        lists = (InvalidList, not_lists())
        for function in (list_and, list_or):
            self.check_wrong(function, (BRIDGE, TWO), [lists, lists])
            self.check_wrong(function, (EACH12, EACH12), [lists, lists])


class Nets(Case):
    """[20.2]"""

    def told_by(self, net, names, many, further):
        """The lines of a net whose poles get names, and whose other knots are counted on."""
        names = list(names) + list(range(further, further + net.knots - 2))
        return tuple(tuple(sorted((names[a], names[b]))) for a, b in net.lines)

    def test_nets(self):
        for _ in range(60):
            one, other = CHANCE.choice(NETS[:-6]), CHANCE.choice(NETS)
            if one.knots + other.knots < 26:
                both, either = net_and(one, other), net_or(one, other)
                self.assertEqual(both, Net(one.knots + other.knots - 1, self.told_by(one, (0, 2), 0, 3)
                                           + self.told_by(other, (2, 1), 0, one.knots + 1)))
                self.assertEqual(either, Net(one.knots + other.knots - 2, self.told_by(one, (0, 1), 0, 2)
                                             + self.told_by(other, (0, 1), 0, one.knots)))
                if len(both.lines) < 13:
                    many = len(one.lines)
                    first, second = ways_by(one), shifted(ways_by(other), many)
                    self.assertEqual(ways_by(both), unions(first, second))
                    self.assertEqual(ways_by(either), sorted(first + second))

    def test_lists(self):
        nets = [net for net in NETS if wishes_are(net) and len(net.lines) < 7]
        for one, other in itertools.product(nets[:8], nets[-8:]):
            if len(one.lines) + len(other.lines) < 13:
                self.assertEqual(wishes_of(net_and(one, other)), list_and(wishes_of(one), wishes_of(other)))
                self.assertEqual(wishes_of(net_or(one, other)), list_or(wishes_of(one), wishes_of(other)))

    def test_edges(self):
        self.assertEqual([net_and(LINE, LINE), net_or(LINE, LINE)],
                         [Net(3, ((0, 2), (1, 2))), Net(2, ((0, 1), (0, 1)))])
        many = Net(2, ((0, 1),) * 12)
        for function in (net_and, net_or):
            self.assertEqual(len(function(many, many).lines), 24)
            self.assertEqual(len(function(Net(2, ((0, 1),) * 23), LINE).lines), 24)
            self.check_error(TooMany, {"limit": 24}, function, many, Net(2, ((0, 1),) * 13))
            self.check_error(TooMany, {"limit": 24}, function, Net(2, ((0, 0),) * 24), LINE)
            # Too many lines come ahead of too many knots.
            self.check_error(TooMany, {"limit": 24}, function, Net(25, ((0, 0),) * 24), Net(25, ((3, 4),)))
        self.assertEqual(net_and(Net(24, ((0, 23),)), LINE).knots, 25)
        self.assertEqual(net_or(Net(25, ((0, 24),)), LINE), Net(25, ((0, 24), (0, 1))))
        self.assertEqual(net_and(Net(3, ((1, 2),)), Net(23, ((1, 22),))), Net(25, ((2, 3), (1, 24))))
        self.check_error(TooMany, {"limit": 25}, net_and, Net(25, ((0, 24),)), LINE)
        self.check_error(TooMany, {"limit": 25}, net_or, Net(25, ((0, 24),)), Net(3, ((0, 1),)))
        self.assertEqual(net_or(Net(3, ((2, 2),)), Net(3, ((0, 2), (2, 2)))), Net(4, ((2, 2), (0, 3), (3, 3))))

    def test_wrong(self):
        nets = (InvalidNet, NOT_NETS)
        one = Net(1, ((0, 0),))
        for function in (net_and, net_or):
            self.check_wrong(function, (DELTA, LINE), [nets, nets])
            self.check_wrong(function, (one, one), [nets, nets])
            for pair in ((one, DELTA), (DELTA, one), (one, one), (one, Net(25, ((0, 1),) * 24))):
                self.check_error(InvalidOperation, {}, function, *pair)


class Put(Case):
    """[20.3]"""

    def test_lists(self):
        for one, other in PAIRS:
            for contact in contacts(one):
                told = put_by(one, contact, other)
                if len(told) < 101:
                    self.assertEqual(list_put(one, contact, other), told)
                    self.assertIs(is_list(told), True)
                    right = is_odd_by(one) and is_odd_by(other)
                    self.assertEqual(odd_or_pair(told) == ("odd",), right)
                    has_net = net_or_paper(one)[0] == net_or_paper(other)[0] == "net"
                    self.assertEqual(net_or_paper(told)[0] == "net", has_net)

    def test_one_contact(self):
        for wishes in SMALL:
            self.assertEqual(list_put(ONE, 0, wishes), wishes)
            self.assertEqual(list_put(wishes, len(contacts(wishes)) - 1, ONE), wishes)

    def test_nets(self):
        nets = [net for net in NETS if wishes_are(net) and len(net.lines) < 7]
        for one, other in itertools.product(nets[:8], nets[-8:]):
            for line, (low, high) in enumerate(one.lines):
                told = net_put(one, line, other)
                names = [low, high] + list(range(one.knots, one.knots + other.knots - 2))
                more = tuple(tuple(sorted((names[a], names[b]))) for a, b in other.lines)
                self.assertEqual(told, Net(one.knots + other.knots - 2, one.lines[:line] + one.lines[line + 1:] + more))
                if len(told.lines) < 13:
                    self.assertEqual(wishes_of(told), list_put(wishes_of(one), line, wishes_of(other)))

    def test_unlike_poles(self):
        # The lesser knot of the line takes the pole 0.
        other = Net(3, ((0, 2), (0, 2), (1, 2)))
        self.assertEqual(net_put(Net(4, ((0, 3), (2, 3))), 1, other), Net(5, ((0, 3), (2, 4), (2, 4), (3, 4))))

    def test_edges(self):
        self.assertEqual(len(contacts(list_put(BRIDGE, 4, tuple((k,) for k in range(8))))), 12)
        self.check_error(TooMany, {"limit": 12}, list_put, BRIDGE, 4, tuple((k,) for k in range(9)))
        self.assertEqual(list_put(ONE, 0, WIDE), WIDE)
        self.assertEqual(list_put(ALL12, 11, ONE), ALL12)
        self.assertEqual(list_put(WIDE, 3, ONE), tuple(sorted(
            tuple(sorted(11 if k == 3 else k - (k > 3) for k in wish)) for wish in WIDE)))
        # Of the fifteen pairs of six contacts five have the contact 0: 10 + 5 * 18 wishes are 100.
        eighteen = tuple(itertools.combinations(range(7), 2))[:18]
        self.assertEqual(len(list_put(SIX2, 0, eighteen)), 100)
        for more in (19, 21):
            wishes = tuple(itertools.combinations(range(7), 2))[:more]
            self.check_error(TooMany, {"limit": 100}, list_put, SIX2, 0, wishes)
        self.check_error(TooMany, {"limit": 12}, list_put, SIX2, 0, WIDE)
        self.assertEqual(len(net_put(Net(2, ((0, 1),) * 12), 0, Net(2, ((0, 1),) * 13)).lines), 24)
        self.check_error(TooMany, {"limit": 24}, net_put, Net(2, ((0, 1),) * 12), 0, Net(2, ((0, 1),) * 14))
        self.assertEqual(net_put(Net(25, ((0, 24),)), 0, LINE), Net(25, ((0, 24),)))
        self.assertEqual(net_put(Net(13, ((3, 12),)), 0, Net(14, ((0, 13),))), Net(25, ((3, 24),)))
        self.check_error(TooMany, {"limit": 25}, net_put, Net(13, ((3, 12),)), 0, Net(15, ((0, 13),)))
        self.check_error(TooMany, {"limit": 24}, net_put, Net(13, ((3, 12),) * 24), 0, Net(15, ((0, 13),) * 2))

    def test_loops(self):
        net = Net(3, ((0, 1), (2, 2), (1, 1), (0, 2)))
        for line in (1, 2):
            self.check_error(InvalidOperation, {}, net_put, net, line, DELTA)
        self.assertEqual(net_put(net, 0, Net(3, ((2, 2), (0, 2)))).lines, ((2, 2), (1, 1), (0, 2), (3, 3), (0, 3)))
        self.check_error(InvalidOperation, {}, net_put, Net(3, ((2, 2),) * 24), 0, Net(25, ((0, 1),) * 24))

    def test_wrong(self):
        lists, nets = (InvalidList, not_lists()), (InvalidNet, NOT_NETS)
        self.check_wrong(list_put, (BRIDGE, 0, TWO), [lists, (InvalidNumber, not_numbers(0, 4)), lists])
        self.check_wrong(list_put, (EACH12, 0, WIDE), [lists, (InvalidNumber, not_numbers(0, 11)), lists])
        lines = (InvalidNumber, not_numbers(0, 4))
        self.check_wrong(net_put, (DELTA, 0, LINE), [nets, lines, nets])
        one = Net(1, ((0, 0),) * 5)
        self.check_wrong(net_put, (one, 0, one), [nets, lines, nets])
        for pair in ((one, DELTA), (DELTA, one), (one, one)):
            self.check_error(InvalidOperation, {}, net_put, pair[0], 0, pair[1])


class Recipes(Case):
    """[20.4], [20.5]"""

    def test_recipes(self):
        for recipe in RECIPES:
            many = (len(recipe) + 1) // 2
            self.assertIs(is_recipe(recipe), True)
            wishes = list_of_recipe(recipe)
            self.assertIs(is_list(wishes), True)
            self.assertEqual(contacts(wishes), list(range(many)))
            for shut in subsets(range(many))[::5]:
                self.assertEqual(any(set(wish) <= set(shut) for wish in wishes), conducts(recipe, shut))
            net = net_of_recipe(recipe)
            self.assertTrue(does_by(net, wishes))
            self.assertEqual(net.knots, 2 + recipe.count("and"))
            self.assertLessEqual(len(wishes), 81)

    def test_turned_round(self):
        for recipe in RECIPES:
            turned = tuple({"and": "or", "or": "and"}.get(item, item) for item in recipe)
            wishes = list_of_recipe(recipe)
            self.assertEqual(list_of_recipe(turned), cuts_of(wishes))
            self.assertEqual(odd_or_pair(wishes), ("odd",))
            self.assertEqual(net_or_paper(wishes)[0], "net")

    def test_either_or(self):
        words = []
        for wishes in LISTS + [list_of_recipe(recipe) for recipe in RECIPES] + [ALL12, EACH12, FOURS12, WIDE, PAIRS12]:
            value = recipe_or_pair(wishes)
            words.append(value[0])
            self.assertIs(is_recipe_or_pair(wishes, value), True)
            told = cuts_of(wishes)
            self.assertEqual(value[0] == "recipe", all(len(set(a) & set(b)) == 1 for a in wishes for b in told))
            if value[0] == "recipe":
                self.assertEqual(list_of_recipe(value[1]), wishes)
            else:
                self.assertTrue(value[1] in wishes and value[2] in told)
                self.assertGreater(len(set(value[1]) & set(value[2])), 1)
        self.assertGreater(min(words.count("recipe"), words.count("pair")), 20)

    def test_any_recipe(self):
        # Whichever recipe leads to the list is taken.
        items = (0, 1, 2, "and", "or")
        every = [value for value in itertools.product(items, repeat=5) if is_recipe(value)]
        self.assertEqual(len(every), 6 * 2 * 4)
        for wishes in {list_of_recipe(value) for value in every}:
            taken = self.check_judged(is_recipe_or_pair, (wishes,), [("recipe", value) for value in every],
                                      lambda value: list_of_recipe(value[1]) == wishes)
            self.assertGreater(taken, 0)
        for recipe in RECIPES:
            self.assertIs(is_recipe_or_pair(list_of_recipe(recipe), ("recipe", recipe)), True)

    def test_judged(self):
        for wishes in LISTS[::6] + [TWO, BRIDGE]:
            told, lots = cuts_by_trial(wishes), subsets(contacts(wishes))[:40]
            values = [("pair", a, b) for a in lots for b in lots]
            self.check_judged(is_recipe_or_pair, (wishes,), values, lambda value: (
                value[1] in wishes and value[2] in told and len(set(value[1]) & set(value[2])) > 1))
        self.check_takes(is_recipe_or_pair, (((0, 1), (2,)),), ("recipe", (0, 1, "and", 2, "or")))
        self.check_takes(is_recipe_or_pair, (((0, 1), (2,)),), ("recipe", (2, 1, 0, "and", "or")))
        self.check_takes(is_recipe_or_pair, (TWO,), ("pair", (0, 1), (0, 1)))
        self.check_takes(is_recipe_or_pair, (ONE,), ("recipe", (0,)))
        for wishes in (BRIDGE, TWO, EACH12):
            self.check_never(is_recipe_or_pair, (wishes,))
            for value in STRANGE:
                self.assertIs(is_recipe_or_pair(wishes, ("recipe", value)), False)
                for told in (("pair", value, (0, 2, 4)), ("pair", (0, 2, 4), value), ("pair", value)):
                    self.assertIs(is_recipe_or_pair(wishes, told), False)

    def test_is_recipe(self):
        for value in ((0,), (0, 1, "and"), (1, 0, "or"), (0, 1, 2, "and", "or"), tuple(range(12)) + ("or",) * 11):
            self.assertIs(is_recipe(value), True)
        wrong = [(), ("and",), (0, "and"), ("and", 0, 1), (0, "or", 1), (0, 1), (0, 1, "and", "or"), (0, 1, 2, "and"),
                 (0, 0, "and"), (0, 2, "and"), (1,), (1, 2, "or"), (0, 1, "nand"), (0, 1, "And"), (0, 1, ("and",)),
                 (False, 1, "and"), (0, True, "and"), [0, 1, "and"], (0, 1, "and", None), (0, 10 ** 60, "or"),
                 (-1, 0, "or"),
                 tuple(range(13)) + ("or",) * 12, "0", ("0",), (0, 1, ["or"]), (0, 1, ""), (0, 1, "and", 2, "or", "or"),
                 (0, "and", 1, "or", 2), (0, 1, "or", 2, 3, "and")]
        for value in wrong:
            self.assertIs(is_recipe(value), False)
        for value in STRANGE:
            self.assertIs(is_recipe(value), repr(value) == "(0,)")
        for function in (list_of_recipe, net_of_recipe):
            for value in wrong + [None, 3, {}, FANO, WHEEL, "and"]:
                self.check_error(InvalidOperation, {}, function, value)

    def test_edges(self):
        self.assertEqual([list_of_recipe((0,)), net_of_recipe((0,))], [ONE, LINE])
        self.assertEqual(list_of_recipe(tuple(range(12)) + ("or",) * 11), EACH12)
        self.assertEqual(list_of_recipe(tuple(range(12)) + ("and",) * 11), ALL12)
        self.assertEqual(net_of_recipe(tuple(range(12)) + ("and",) * 11).knots, 13)
        threes = ()
        for k in range(0, 12, 3):
            threes += (k, k + 1, k + 2, "or", "or") + (("and",) if k else ())
        self.assertEqual(len(list_of_recipe(threes)), 81)
        self.assertEqual(len(ways(net_of_recipe(threes))), 81)
        for wishes in (WIDE, FOURS12, list_of_recipe(threes), EACH12, ALL12):
            before = time.perf_counter()
            self.assertIs(is_recipe_or_pair(wishes, recipe_or_pair(wishes)), True)
            self.assertLess(time.perf_counter() - before, 2)

    def test_wrong(self):
        lists = (InvalidList, not_lists())
        self.check_wrong(recipe_or_pair, (BRIDGE,), [lists])
        for right in (("recipe", (0, 1, "and", 2, "or")), ("pair", (0, 2, 4), (0, 2, 4))):
            self.check_judge_wrong(is_recipe_or_pair, (BRIDGE,), right, [lists])


class NotTrue(Case):
    """[20.6]"""

    def test_odd_list_without_recipe(self):
        self.assertEqual(odd_or_pair(BRIDGE), ("odd",))
        self.assertEqual(recipe_or_pair(BRIDGE)[0], "pair")

    def test_one_length(self):
        self.assertEqual({len(wish) for wish in TWO}, {2})
        self.assertEqual(recipe_or_pair(TWO)[0], "pair")
