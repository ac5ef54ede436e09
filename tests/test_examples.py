"""The examples of the document, word for word."""

import importlib
import unittest

HEAD = """
>>> FANO = Table(7, ((0, 1, 3), (1, 2, 4), (2, 3, 5), (3, 4, 6)))
>>> WHEEL = Net(4, ((0, 1), (0, 2), (0, 3), (1, 2), (1, 3), (2, 3)))
>>> ROUNDS = Table(6, ((0, 1, 3), (0, 2, 4), (1, 2, 5)))
>>> BOTH = Table(5, ((0, 1), (2, 3), (0, 2, 4)))
"""

LOTS = """
>>> [lot_sum((0, 1, 3), (0, 2, 4)), does_meet_oddly((0, 1, 2), (1, 2, 5)), form_of(((0, 1, 3), (0, 2, 4), (1, 2, 5)))]
[(1, 2, 3, 4), False, ((0, 2, 4), (1, 2, 5), (3, 4, 5))]
>>> [opposite_form(6, ((0, 1, 3), (0, 2, 4), (1, 2, 5))), opposite_form(2, ()), common_form(((0, 1), (2,)), ((0, 1, 2), (3,)))]
[((0, 3, 4), (1, 3, 5), (2, 4, 5)), ((0,), (1,)), ((0, 1, 2),)]
>>> [sum_or_test(((0, 1), (1, 2)), (0, 2)), is_sum_or_test(((0, 1), (1, 2)), (0,), ("test", (0, 1, 2))), met_or_bar(((0, 1), (1, 2), (0, 2)), (1, 1, 1))]
[('sum', (0, 1)), True, ('bar', (0, 1, 2))]
>>> [is_met_or_bar(((0, 1), (1, 2)), (1, 0), ("lot", (0, 9))), is_lot_of(3, (0, 3)), form_of(((), (2,), (2,)))]
[True, False, ((2,),)]
"""

TABLES = """
>>> [ROUNDS.form, ROUNDS.size, opposite(ROUNDS).form, str(FANO), sum_count(FANO)]
[((0, 2, 4), (1, 2, 5), (3, 4, 5)), 3, ((0, 3, 4), (1, 3, 5), (2, 4, 5)), 'table of 7 lines, size 4', 16]
>>> [sums(BOTH), is_sum(ROUNDS, (1, 2, 3, 4)), sum_by(ROUNDS, (0, 1, 3)), is_test(ROUNDS, (0, 1), (0, 3, 4))]
[((), (0, 1), (0, 1, 2, 3), (0, 2, 4), (0, 3, 4), (1, 2, 4), (1, 3, 4), (2, 3)), True, (0, 1, 2), True]
>>> [opposite(opposite(FANO)) == FANO, is_within(opposite(FANO), FANO), common(ROUNDS, opposite(ROUNDS)).form, joint(ROUNDS, opposite(ROUNDS)).size]
[True, True, ((0, 2, 3, 5), (1, 2, 3, 4)), 4]
>>> [relined(BOTH, (4, 0, 1, 2, 3)).form, order_back(BOTH, (4, 0, 1, 2, 3)), opposite(Table(2, ())) == Table(2, ((0,), (0, 1)))]
[((0, 2, 4), (1, 2), (3, 4)), (1, 2, 3, 4, 0), True]
>>> Table(3, ((0, 3),))
raises InvalidTable
"""

NETS = """
>>> [table_of(WHEEL) == ROUNDS, pieces_of(WHEEL), star(WHEEL, 1), is_walk(WHEEL, (0, 1, 3), (3, 0, 1)), shores(WHEEL, (1, 2, 3, 4))]
[True, ((0, 1, 2, 3),), (0, 3, 4), True, ((0, 1), (2, 3))]
>>> [net_out(WHEEL, 5).lines, net_join(WHEEL, 3).lines, net_tied(WHEEL, 5, WHEEL, 0, 1).knots]
[((0, 1), (0, 2), (0, 3), (1, 2), (1, 3)), ((0, 1), (0, 1), (0, 2), (1, 2), (1, 2)), 6]
"""


def names_of(modules):
    """All public names of the modules, and of the errors."""
    found = {}
    for module in ("errors",) + modules:
        loaded = importlib.import_module("ringtables." + module)
        found.update({name: getattr(loaded, name) for name in vars(loaded) if not name.startswith("_")})
    return found


def outcome(source, names):
    """What Python would show for a line, or "raises" and the error."""
    try:
        code = compile(source, "example", "eval")
    except SyntaxError:
        exec(source, names)
        return None
    try:
        result = eval(code, names)
    except Exception as error:
        shown = repr(error)
        return "raises " + (shown if names["told"](shown) else type(error).__name__)
    return None if result is None else repr(result)


class Examples(unittest.TestCase):
    def check(self, text, *modules):
        names = names_of(modules + ("table.tables", "net.nets"))
        lines = (HEAD + text).splitlines()
        shown = [line for line in lines if not line.startswith(">>> ")]
        names["told"] = lambda error: "raises " + error in shown
        count = 0
        for k, line in enumerate(lines):
            if line.startswith(">>> "):
                after = lines[k + 1] if k + 1 < len(lines) else ">>> "
                expected = None if after.startswith(">>> ") or not after else after
                self.assertEqual(outcome(line[4:], names), expected, line)
                count += 1
        self.assertEqual(count, text.count(">>> ") + 4)

    def test_lots(self):
        self.check(LOTS, "base.lots")

    def test_tables(self):
        self.check(TABLES, "table.tables")

    def test_nets(self):
        self.check(NETS, "net.nets")
