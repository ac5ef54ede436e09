"""The examples of the document, word for word."""

import importlib
import unittest

HEAD = """
>>> FANO = Table(7, ((0, 1, 3), (1, 2, 4), (2, 3, 5), (3, 4, 6)))
>>> WHEEL = Net(4, ((0, 1), (0, 2), (0, 3), (1, 2), (1, 3), (2, 3)))
>>> ROUNDS = Table(6, ((0, 1, 3), (0, 2, 4), (1, 2, 5)))
>>> BOTH = Table(5, ((0, 1), (2, 3), (0, 2, 4)))
"""

LOTS = """
>>> [lot_sum((0, 1, 3), (0, 2, 4)), does_meet_oddly((0, 1, 2), (1, 2, 5)), form_of(((0, 1, 3), (0, 2, 4), (1, 2, 5)))]
[(1, 2, 3, 4), False, ((0, 2, 4), (1, 2, 5), (3, 4, 5))]
>>> [opposite_form(6, ((0, 1, 3), (0, 2, 4), (1, 2, 5))), opposite_form(2, ()), common_form(((0, 1), (2,)), ((0, 1, 2), (3,)))]
[((0, 3, 4), (1, 3, 5), (2, 4, 5)), ((0,), (1,)), ((0, 1, 2),)]
>>> [sum_or_test(((0, 1), (1, 2)), (0, 2)), is_sum_or_test(((0, 1), (1, 2)), (0,), ("test", (0, 1, 2))), met_or_bar(((0, 1), (1, 2), (0, 2)), (1, 1, 1))]
[('sum', (0, 1)), True, ('bar', (0, 1, 2))]
>>> [is_met_or_bar(((0, 1), (1, 2)), (1, 0), ("lot", (0, 9))), is_lot_of(3, (0, 3)), form_of(((), (2,), (2,)))]
[True, False, ((2,),)]
"""

TABLES = """
>>> [ROUNDS.form, ROUNDS.size, opposite(ROUNDS).form, str(FANO), sum_count(FANO)]
[((0, 2, 4), (1, 2, 5), (3, 4, 5)), 3, ((0, 3, 4), (1, 3, 5), (2, 4, 5)), 'table of 7 lines, size 4', 16]
>>> [sums(BOTH), is_sum(ROUNDS, (1, 2, 3, 4)), sum_by(ROUNDS, (0, 1, 3)), is_test(ROUNDS, (0, 1), (0, 3, 4))]
[((), (0, 1), (0, 1, 2, 3), (0, 2, 4), (0, 3, 4), (1, 2, 4), (1, 3, 4), (2, 3)), True, (0, 1, 2), True]
>>> [opposite(opposite(FANO)) == FANO, is_within(opposite(FANO), FANO), common(ROUNDS, opposite(ROUNDS)).form, joint(ROUNDS, opposite(ROUNDS)).size]
[True, True, ((0, 2, 3, 5), (1, 2, 3, 4)), 4]
>>> [relined(BOTH, (4, 0, 1, 2, 3)).form, order_back(BOTH, (4, 0, 1, 2, 3)), opposite(Table(2, ())) == Table(2, ((0,), (0, 1)))]
[((0, 2, 4), (1, 2), (3, 4)), (1, 2, 3, 4, 0), True]
>>> Table(3, ((0, 3),))
raises InvalidTable
"""

NETS = """
>>> [table_of(WHEEL) == ROUNDS, pieces_of(WHEEL), star(WHEEL, 1), is_walk(WHEEL, (0, 1, 3), (3, 0, 1)), shores(WHEEL, (1, 2, 3, 4))]
[True, ((0, 1, 2, 3),), (0, 3, 4), True, ((0, 1), (2, 3))]
>>> [net_out(WHEEL, 5).lines, net_join(WHEEL, 3).lines, net_tied(WHEEL, 5, WHEEL, 0, 1).knots]
[((0, 1), (0, 2), (0, 3), (1, 2), (1, 3)), ((0, 1), (0, 1), (0, 2), (1, 2), (1, 2)), 6]
"""

RINGS = """
>>> [rings(BOTH), len(rings(FANO)), len(cuts(FANO)), is_ring(FANO, (0, 1, 2, 3, 4, 5, 6)), is_cut(ROUNDS, (1, 2, 3, 4))]
[((0, 1), (0, 2, 4), (0, 3, 4), (1, 2, 4), (1, 3, 4), (2, 3)), 14, 7, False, True]
>>> [ring_parts(BOTH, (0, 1, 2, 3)), painted(ROUNDS, 0, (1, 3)), is_painted(ROUNDS, 0, (1,), ("cut", (0, 2, 3, 5))), painted(BOTH, 4, (0,))]
[((0, 1), (2, 3)), ('ring', (0, 1, 3)), True, ('cut', (2, 3, 4))]
>>> [exchanged(ROUNDS, (0, 1, 3), (0, 2, 4), 0, 1), size_counts(FANO), size_counts(opposite(FANO))]
[(1, 2, 3, 4), (1, 0, 0, 7, 7, 0, 0, 1), (1, 0, 0, 0, 7, 0, 0, 0)]
>>> [rings(Table(2, ((1,),))), cuts(Table(2, ((1,),))), ring_parts(ROUNDS, ())]
[((1,),), ((0,),), ()]
"""

LESSER = """
>>> [lesser(BOTH, ("out", 0)).form, lesser(BOTH, ("join", 4)).form, stays(BOTH, (("out", 1), ("join", 1)))]
[((0, 2, 3), (1, 2)), ((0, 3), (1, 3), (2, 3)), (0, 3, 4)]
>>> [gathered(BOTH, (("out", 1), ("join", 1))), is_steps_for(BOTH, (1,), (2,), (("join", 2), ("out", 1)))]
[((1,), (2,)), True]
>>> [is_tidy(BOTH, (), (0, 1), ((1,), (0,))), widened(Table(2, ((0, 1),)), (0,)).form]
[True, ((0, 2), (1, 2))]
>>> steps_to(Table(2, ((0, 1),)), Table(1, ((0,),)))
(('join', 0), ('join', 1))
>>> lesser(Table(1, ()), ("out", 0))
raises Refused(('nothing',))
"""

PARTS = """
>>> [parts(BOTH), parts(Table(3, ((1,),))), does_hang(ROUNDS), part_table(beside(BOTH, ROUNDS), 1) == (ROUNDS, (5, 6, 7, 8, 9, 10))]
[((0, 1, 2, 3, 4),), ((0,), (1,), (2,)), True, True]
>>> [is_seam(BOTH, (0, 1)), is_seam(ROUNDS, (0, 1, 3)), tied(Table(3, ((0, 1), (0, 2))), 2, Table(4, ((0, 1), (0, 2, 3))), 3) == BOTH]
[True, False, True]
>>> taken_apart(BOTH, (0, 1)) == (Table(3, ((0, 1), (0, 2))), Table(4, ((0, 1), (0, 2, 3))))
True
>>> tied(Table(1, ()), 0, Table(1, ((0,),)), 0)
raises Refused(('nothing',))
"""

TREES = """
>>> [rank(ROUNDS, (0, 1, 3)), is_tree(ROUNDS, (0, 1, 2)), is_tree(FANO, (0, 1, 3)), len(tree_of(FANO))]
[2, True, False, 3]
>>> [own_ring(ROUNDS, (0, 1, 2), 5), own_cut(ROUNDS, (0, 1, 2), 0), is_exchange(ROUNDS, (0, 1, 2), (0, 3, 4), 1, 3)]
[(1, 2, 5), (0, 3, 4), True]
>>> [is_least_tree(ROUNDS, (1, 1, 1, 2, 2, 2), (0, 1, 2)), is_least_tree(ROUNDS, (5, 1, 1, 2, 2, 2), (0, 1, 2))]
[True, False]
"""

BRIDGES = """
>>> CROSS = (1, 2, 3, 4)
>>> [bridges(ROUNDS, CROSS), segments(ROUNDS, CROSS, 0), segments(ROUNDS, CROSS, 1), clashes(ROUNDS, CROSS)]
[((0,), (5,)), ((1, 2), (3, 4)), ((1, 3), (2, 4)), ((0, 1),)]
>>> [component(ROUNDS, CROSS, 1)[1], component(ROUNDS, CROSS, 0)[0] == Table(5, ((1, 2), (3, 4), (0, 1, 3))), bridges(FANO, (2, 4, 5, 6))]
[(1, 2, 3, 4, 5), True, ((0, 1, 3),)]
>>> SPLIT = Table(7, ((0, 1, 3, 6), (0, 2, 4), (1, 2, 5, 6)))
>>> [bridges(SPLIT, CROSS), do_agree(SPLIT, CROSS, 0, 2), do_agree(SPLIT, CROSS, 1, 2), facing(SPLIT, CROSS, 0, 1)]
[((0,), (5,), (6,)), True, True, None]
>>> [is_facing(SPLIT, CROSS, 0, 2, ((1, 2), (2, 3, 4))), bridges(Table(3, ((0, 1), (1, 2))), (0, 1, 2))]
[True, ()]
>>> do_agree(ROUNDS, CROSS, 1, 1)
raises InvalidOperation
"""

SIDES = """
>>> [side_count(ROUNDS, CROSS), is_sides_or_row(ROUNDS, CROSS, ("sides", (1, 0))), shore_sides(WHEEL, CROSS), side_count(SPLIT, CROSS)]
[2, True, (0, 1), 4]
>>> STARS = Table(10, ((0, 1, 2, 3), (0, 4, 5, 6), (1, 4, 7, 8), (2, 5, 7, 9)))
>>> [clashes(STARS, (0, 2, 4, 7)), is_sides_or_row(STARS, (0, 2, 4, 7), ("row", (2, 0, 1))), is_even(STARS, (0, 2, 4, 7))]
[((0, 1), (0, 2), (1, 2)), True, False]
>>> [uneven(ROUNDS), uneven(FANO), is_uneven(STARS, ((0, 2, 4, 7), (0, 1, 2)))]
[None, None, True]
>>> [side_count(FANO, (2, 4, 5, 6)), sides_or_row(Table(2, ((0, 1),)), (0, 1)), kept(SPLIT, CROSS, (0, 1))[0] == ROUNDS]
[2, ('sides', ()), True]
>>> kept(ROUNDS, CROSS, (1, 0))
raises InvalidOperation
"""

STARS = """
>>> [told_cuts(ROUNDS), star_net(ROUNDS).lines]
[((0, 3, 4), (1, 3, 5), (2, 4, 5)), ((0, 3), (1, 3), (2, 3), (0, 1), (0, 2), (1, 2))]
>>> [is_star_cut(ROUNDS, (1, 2, 3, 4)), is_star_cut(FANO, (2, 4, 5, 6)), told_cuts(FANO)]
[False, True, ((0, 3, 5, 6), (1, 3, 4, 5), (2, 4, 5, 6))]
>>> [net_three_or_cut(FANO)[0], is_net_three_or_cut(ROUNDS, ("cut", (1, 2, 3, 4)))]
['three', True]
>>> [star_knots(ROUNDS, WHEEL), star_net(Table(3, ((0, 1), (1, 2)))).lines]
[((0, 1, 2), (0, 3, 4), (1, 3, 5), (2, 4, 5)), ((0, 1), (0, 1), (0, 1))]
>>> star_net(FANO)
raises Refused(('three', 5))
"""

FOUND = """
>>> [net_or_stop(FANO)[0], net_of(FANO)]
['stop', None]
>>> HALVES = (Net(3, ((0, 1), (0, 2), (0, 2), (1, 2), (1, 2))), Net(3, ((0, 2), (1, 2), (0, 2), (1, 2), (0, 1))))
>>> is_net_of(ROUNDS, nets_glued(ROUNDS, CROSS, HALVES))
True
>>> [behind_steps(ROUNDS, (("bridge", CROSS, 1),))[1], is_net_or_stop(FANO, ("stop", (), ("three", 5, told_cuts(FANO))))]
[(1, 2, 3, 4, 5), True]
>>> is_net_or_stop(ROUNDS, ("net", WHEEL))
True
"""

BARS = """
>>> FIVE, SIX = told_table("five"), told_table("six")
>>> [told_table("seven") == FANO, name_count(FANO, "seven"), FIVE == STARS, word_of(ROUNDS), name_count(FIVE, "six")]
[True, 168, True, None, 0]
>>> LONGER = Table(8, ((0, 1, 3), (1, 2, 4), (2, 3, 5), (3, 4, 6), (0, 7)))
>>> [is_bar(LONGER, ("seven", (("out", 0),), (6, 0, 1, 2, 3, 4, 5))), is_bar(LONGER, ("seven", (("join", 7),), (0, 1, 2, 3, 4, 5, 6)))]
[True, False]
>>> [net_or_bar(LONGER)[0], is_net_or_bar(ROUNDS, ("net", WHEEL)), is_least(FANO), least_steps(ROUNDS), is_least(LONGER)]
['bar', True, True, None, False]
>>> opposite_bar(LONGER, ("seven", (("out", 0),), (6, 0, 1, 2, 3, 4, 5)))
('fours', (('join', 0),), (6, 0, 1, 2, 3, 4, 5))
>>> told_table("eight")
raises UnknownName('eight')
"""

KINDS = """
>>> TEN = Table(10, ((0, 5, 6, 9), (1, 5, 6, 7), (2, 6, 7, 8), (3, 7, 8, 9), (4, 5, 8, 9)))
>>> [kind(one) for one in (ROUNDS, FIVE, opposite(SIX), TEN, FANO)]
['flat', 'opposite', 'net', 'signed', 'bare']
>>> [kind_by(("net", "flat")), kind_by(("net", "opposite")), kind_by(("flat", "flat")), kinds_of_parts(Table(3, ((0, 1),)))]
['net', 'signed', 'flat', ('flat', 'flat')]
>>> [flat_or_bar(ROUNDS)[0], is_kind_paper(ROUNDS, ("flat", WHEEL, Net(4, ((0, 1), (0, 2), (1, 2), (0, 3), (1, 3), (2, 3)))))]
['flat', True]
>>> kind_by(())
raises InvalidOperation
"""

FLAT = """
>>> SIDES = ((0, 1, 3), (0, 2, 4), (1, 2, 5))
>>> [are_faces(WHEEL, SIDES), outer(WHEEL, SIDES), net_by_faces(WHEEL, SIDES).lines, is_short_lot(WHEEL, SIDES, 3)]
[True, (3, 4, 5), ((0, 1), (0, 2), (1, 2), (0, 3), (1, 3), (2, 3)), True]
>>> faces_by(WHEEL, net_by_faces(WHEEL, SIDES))
((0, 2, 4), (1, 2, 5), (3, 4, 5))
>>> [net_by_faces(Net(3, ((0, 1), (1, 2))), ()).lines, net_by_faces(Net(1, ((0, 0),)), ((0,),)).lines]
[((0, 0), (0, 0)), ((0, 1),)]
>>> ALL = Net(5, tuple([(a, b) for a in range(5) for b in range(a + 1, 5)]))
>>> faces_or_bar(ALL)[1][0]
'five'
"""

SIGNS = """
>>> [sign_count(ROUNDS), sign_count(FANO), net_signs(WHEEL)]
[32, 0, ((1, 0, -1, 0, 1, 0), (0, 1, -1, 0, 0, 1), (0, 0, 0, 1, -1, 1))]
>>> ONES = ((1, 0, 1, 0, 1, 0), (0, 1, 1, 0, 0, 1), (0, 0, 0, 1, 1, 1))
>>> [are_signs(ROUNDS, ONES), are_right_signs(ROUNDS, ONES), split_of(ROUNDS, ONES, (0, 1, 2)), is_right_or_lot(ROUNDS, ONES, ("lot", (2, 4, 5)))]
[True, False, None, True]
>>> [turned_signs(ROUNDS, ONES, (2,)), is_signs_or_bar(FANO, ("seven", (), (0, 1, 2, 3, 4, 5, 6)))]
[((1, 0, -1, 0, 1, 0), (0, 1, -1, 0, 0, 1), (0, 0, 0, 1, 1, 1)), True]
"""

COUNTS = """
>>> RIGHT = net_signs(WHEEL)
>>> [tree_count(ROUNDS), trees_with(ROUNDS), tree_count(FANO), net_tree_count(WHEEL)]
[16, (8, 8, 8, 8, 8, 8), 28, 16]
>>> [square(ROUNDS, RIGHT), square_count(ROUNDS, RIGHT), square_count(ROUNDS, ONES), lot_determinant(ROUNDS, ONES, (2, 4, 5))]
[((3, 1, -1), (1, 3, 1), (-1, 1, 3)), 16, 20, -2]
>>> [net_or_uneven(ROUNDS)[0], is_net_or_uneven(ROUNDS, ("net", WHEEL)), tree_count(Table(3, ()))]
['net', True, 1]
>>> net_or_uneven(FANO)
raises Refused(('signs',))
"""

CURRENTS = """
>>> THREE, ROUND = Table(3, ((0, 1, 2),)), ((1, 1, -1),)
>>> [is_flow(THREE, ROUND, (2, 2, -2)), is_tension(THREE, ROUND, (1, 2, 3)), bottom(THREE, ROUND, (1, 2, 3))]
[True, True, 6]
>>> [currents(THREE, ROUND, (1, 1, 1), (1, 0, 0)), share(THREE, ROUND, (1, 1, 1), 0), is_flow_or_cut(THREE, ROUND, (1, 1, 0), ("cut", (0, 1, 1)))]
[(3, (1, 1, -1), (2, -1, 1)), (2, 3), True]
"""

LISTS = """
>>> BRIDGE, TWO = ((0, 1), (0, 2, 4), (1, 2, 3), (3, 4)), ((0, 1), (0, 2), (1, 2))
>>> [cuts_of(BRIDGE), odd_or_pair(BRIDGE), lot_or_cut(BRIDGE, (0, 3, 4)), conducting(BRIDGE)]
[((0, 2, 4), (0, 3), (1, 2, 3), (1, 4)), ('odd',), ('lot', (3, 4)), 16]
>>> [is_odd_or_pair(TWO, ("even", (0, 1), (0, 1))), cuts_of(TWO) == TWO, list_of_table(table_of_list(BRIDGE), 5) == BRIDGE]
[True, True, True]
>>> is_list(((0, 1), (0, 1, 2)))
False
"""

POLES = """
>>> DELTA = Net(4, ((0, 2), (1, 2), (2, 3), (0, 3), (1, 3)))
>>> [ways(DELTA) == BRIDGE, rims(DELTA) == cuts_of(BRIDGE), way_or_shore(DELTA, (0, 2, 3)), net_or_paper(BRIDGE)[0]]
[True, True, ('shore', (0, 2, 3)), 'net']
>>> [is_net_or_paper(BRIDGE, ("net", DELTA)), net_or_paper(TWO)[0], is_way(DELTA, (1, 2, 3)), ways(Net(3, ((0, 2),)))]
[True, 'even', True, ()]
>>> wishes_of(Net(3, ((0, 1), (0, 2))))
raises Refused(('line', 1))
"""

JOINS = """
>>> [list_and(((0,), (1,)), ((0,),)), list_or(((0, 1),), ((0,),)), list_put(BRIDGE, 0, ((0,), (1,)))[:2]]
[((0, 2), (1, 2)), ((0, 1), (2,)), ((0, 1, 2), (0, 4))]
>>> [list_of_recipe((0, 1, "and", 2, "or")), recipe_or_pair(TWO)[0], is_recipe_or_pair(BRIDGE, ("pair", (0, 2, 4), (0, 2, 4)))]
[((0, 1), (2,)), 'pair', True]
>>> net_and(Net(2, ((0, 1),)), Net(2, ((0, 1), (0, 1)))) == Net(3, ((0, 2), (1, 2), (1, 2)))
True
"""

WAYS = """
>>> [is_way_in(WHEEL, (0, 4)), ends_of(WHEEL, (0, 1)), ends_of(WHEEL, (0, 5)), ends_of(WHEEL, (0, 1, 2))]
[True, (1, 2), None, None]
>>> [way_or_paper(ROUNDS, (0, 1))[0], way_or_paper(ROUNDS, (0, 5))[0], way_or_paper(ROUNDS, (0, 1, 3)), closed(ROUNDS, ((0, 1),)).lots[-1]]
['way', 'bar', ('ring', (0, 1, 3)), (0, 1, 6)]
>>> LOOSE = Table(4, ())
>>> [ways_or_paper(LOOSE, ((0, 1, 2), (0, 1, 3)))[0], ways_or_paper(LOOSE, ((0, 1, 2), (0, 1, 3), (0, 2, 3)))[1][0], star_or_clash(ROUNDS, (0, 1, 2))[0]]
['ways', 'fours', 'star']
"""

TEXTS = r"""
>>> [table_text(BOTH), net_text(Net(2, ((0, 1), (1, 1)))), steps_text(BOTH, (("out", 4), ("join", 0)))]
['lines 5\nlot 0 1\nlot 2 3\nlot 0 2 4\n', 'knots 2\nline 0 1\nline 1 1\n', 'out 4\njoin 0\n']
>>> [read_signs(Table(2, ((0, 1),)), "row 1 -1\n"), list_text(((0, 1), (2,)))]
[((1, -1),), 'wish 0 1\nwish 2\n']
>>> read_table("lines 2\nlot 0 2\n")
raises ParseError(1)
>>> read_steps(BOTH, "out 4\njoin 4\n")
raises ParseError(1)
"""

DEEDS = """
>>> BENCH = Bench(FANO)
>>> for deed in (("out", 6), ("lines", (0, 1, 3, 2, 4, 5))): BENCH.do(deed)
>>> [str(BENCH), BENCH.kind(), kind_above("net", "opposite"), led_net(WHEEL, ("join", 0)).lines]
['bench of 6 lines, size 3, 2 deeds', 'flat', 'signed', ((0, 1), (0, 2), (0, 1), (0, 2), (1, 2))]
>>> BENCH.do(("out", 6))
raises InvalidOperation
"""

CLAIMS = """
>>> [OPPOSITES["bent"], opposite_claim(("some", (("net", FANO), ("cut", ROUNDS, 0, (1,))))) == ("each", (("stopped", FANO), ("ring", ROUNDS, 0, (1,))))]
['flat', True]
>>> [does_take(("net", ROUNDS), WHEEL), does_take(("odd", STARS, (0, 2, 4, 7)), (0, 1, 2)), does_take(("undone", TWO), ("even", (0, 1), (0, 1)))]
[True, True, True]
>>> [settled(("free", FANO))[0][0], settled(("sum", ROUNDS, (0, 1, 3)))[1], settled(("cut", ROUNDS, 0, (1, 3)))[1]]
['barred', (0, 1, 2), (0, 1, 3)]
>>> [led_paper(("free", ROUNDS), WHEEL, "signed") == net_signs(WHEEL), is_claim(("even", ROUNDS, (0, 1)))]
[True, False]
"""


def names_of(modules):
    """All public names of the modules, and of the errors."""
    found = {}
    for module in ("errors",) + modules:
        loaded = importlib.import_module("ringtables." + module)
        found.update({name: getattr(loaded, name) for name in vars(loaded) if not name.startswith("_")})
    return found


def outcome(source, names):
    """What Python would show for a line, or "raises" and the error."""
    try:
        code = compile(source, "example", "eval")
    except SyntaxError:
        exec(source, names)
        return None
    try:
        result = eval(code, names)
    except Exception as error:
        shown = repr(error)
        return "raises " + (shown if names["told"](shown) else type(error).__name__)
    return None if result is None else repr(result)


# The examples go on from stage to stage: names that one sets are there in the next ones.
STAGES = (
    ("base.lots", LOTS), ("table.tables", TABLES), ("table.rings", RINGS), ("table.lesser", LESSER),
    ("table.parts", PARTS), ("net.nets", NETS), ("table.trees", TREES), ("table.bridges", BRIDGES),
    ("table.sides", SIDES), ("table.stars", STARS), ("main.found", FOUND), ("main.bars", BARS), ("main.kinds", KINDS),
    ("main.flat", FLAT), ("sign.signs", SIGNS), ("sign.counts", COUNTS), ("sign.currents", CURRENTS),
    ("wish.lists", LISTS), ("wish.poles", POLES), ("wish.joins", JOINS), ("more.ways", WAYS), ("text.texts", TEXTS),
    ("bench.bench", DEEDS), ("judge.claims", CLAIMS),
)


class Examples(unittest.TestCase):
    def check(self, text, names):
        lines = text.splitlines()
        shown = [line for line in lines if not line.startswith(">>> ")]
        names["told"] = lambda error: "raises " + error in shown
        count = 0
        for k, line in enumerate(lines):
            if line.startswith(">>> "):
                after = lines[k + 1] if k + 1 < len(lines) else ">>> "
                expected = None if after.startswith(">>> ") or not after else after
                self.assertEqual(outcome(line[4:], names), expected, line)
                count += 1
        self.assertEqual(count, text.count(">>> "))
        self.assertGreater(count, 0)

    def test_stages(self):
        names = names_of(("table.tables", "net.nets"))
        self.check(HEAD, names)
        for module, text in STAGES:
            names.update(names_of((module,)))
            with self.subTest(module):
                self.check(text, names)
