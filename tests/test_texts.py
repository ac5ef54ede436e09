"""Stage 22: texts."""

import random
import re
import time

import ringtables.text.texts as module
from ringtables.errors import InvalidList, InvalidNet, InvalidOperation, InvalidSigns, InvalidTable, InvalidText
from ringtables.errors import ParseError
from ringtables.main.bars import is_bar, net_or_bar, told_table
from ringtables.net.nets import Net, table_of
from ringtables.sign.signs import signs_or_bar
from ringtables.table.lesser import behind, widened
from ringtables.table.parts import beside
from ringtables.table.tables import Table, opposite
from ringtables.text.texts import bar_text, list_text, net_text, read_bar, read_list, read_net, read_signs, read_steps
from ringtables.text.texts import read_table, signs_text, steps_text, table_text
from ringtables.wish.lists import is_list
from tests.support import ALL1, ALL24, BOTH, EVEN24, FANO, NONE1, NONE24, NOT_NETS, NOT_TABLES, ONE24, ROUNDS
from tests.support import SPLIT, WHEEL, Case, hanging_net, picked_nets, picked_tables, small_tables
from tests.test_lists import ALL12, BRIDGE, EACH12, FOURS12, LISTS, ONE, WIDE, not_lists
from tests.test_signs import ONES, RIGHT, some_signs

CHANCE = random.Random(131)
FIVE, SIX = told_table("five"), told_table("six")
NAMES = tuple(range(7))
LONGER = Table(8, ((0, 1, 3), (1, 2, 4), (2, 3, 5), (3, 4, 6), (0, 7)))
LONG_BAR = ("seven", (("out", 0),), (6, 0, 1, 2, 3, 4, 5))
FEW = Table(2, ((0, 1),))
TABLES = small_tables(2) + picked_tables(132, 40, 1, 24) + [FANO, BOTH, ROUNDS, NONE24, ALL24, EVEN24, ONE24, NONE1,
                                                            ALL1,
                                                           Table(3, ((), (0, 1), (0, 1), ())), Table(1, ((),) * 24)]
NETS = picked_nets(133, 30, 25, 24) + [WHEEL, Net(1, ((0, 0),)), Net(25, ((0, 24),) * 24)]
BARS = [(FANO, ("seven", (), NAMES)), (LONGER, LONG_BAR), (FIVE, ("five", (), tuple(range(10)))),
        (opposite(FANO), ("fours", (), NAMES)), (SIX, ("six", (), tuple(range(9))))]


def some_steps(table):
    steps = []
    many = table.many
    for _ in range(CHANCE.randint(0, many - 1)):
        steps.append((CHANCE.choice(("out", "join")), CHANCE.randrange(many)))
        many -= 1
    return tuple(steps)


for _base in (FANO, FIVE, SIX, opposite(FANO)):
    _table = beside(NONE1, beside(_base, ROUNDS))
    BARS.append((_table, net_or_bar(_table)[1]))
BARS.append((beside(FANO, Table(17, ())), ("seven", (("out", 7),) * 17, NAMES)))

# Reference readers: each is told by a pattern for a line, and by what is right behind the lines ahead.
NUMBER = r"(0|[1-9][0-9]*)"


def spot_of(text, is_right, is_enough):
    """The told index of the first wrong line, None if the text is right."""
    lines = text.split("\n")
    ended, last = lines[:-1], lines[-1]
    found = []
    for k, line in enumerate(ended + ([last] if last else [])):
        if not is_right(found, line):
            return k
        found.append(line)
    if last:
        return len(ended)
    return None if is_enough(found) else len(found)


def ints(line):
    # Python reads no longer numbers than 4,300 digits.
    return [int(word[:9]) for word in line.split(" ")[1:]]


def table_spot(text):
    def is_right(found, line):
        if not found:
            return bool(re.fullmatch(f"lines {NUMBER}", line)) and 1 <= ints(line)[0] <= 24
        if not re.fullmatch(f"lot( {NUMBER})*", line) or len(found) == 25:
            return False
        lot = ints(line)
        return lot == sorted(set(lot)) and all(number < ints(found[0])[0] for number in lot)
    return spot_of(text, is_right, lambda found: len(found) > 0)


def net_spot(text):
    def is_right(found, line):
        if not found:
            return bool(re.fullmatch(f"knots {NUMBER}", line)) and 1 <= ints(line)[0] <= 25
        if not re.fullmatch(f"line {NUMBER} {NUMBER}", line) or len(found) == 25:
            return False
        return ints(line)[0] <= ints(line)[1] < ints(found[0])[0]
    return spot_of(text, is_right, lambda found: len(found) > 1)


def steps_spot(table, text):
    def is_right(found, line):
        if not re.fullmatch(f"(out|join) {NUMBER}", line):
            return False
        return len(found) < table.many - 1 and ints(line)[0] < table.many - len(found)
    return spot_of(text, is_right, lambda found: True)


def bar_spot(table, text):
    def is_right(found, line):
        if not found:
            return line in ("five", "fours", "seven", "six")
        if found[-1].startswith("names"):
            return False
        if re.fullmatch(f"(out|join) {NUMBER}", line):
            return len(found) < 25 and ints(line)[0] < 24
        return bool(re.fullmatch(f"names( {NUMBER})*", line)) and all(number < 24 for number in ints(line))

    def is_enough(found):
        if not found or not found[-1].startswith("names"):
            return False
        steps = tuple((line.split(" ")[0], ints(line)[0]) for line in found[1:-1])
        return is_bar(table, (found[0], steps, tuple(ints(found[-1]))))
    return spot_of(text, is_right, is_enough)


def signs_spot(table, text):
    def is_right(found, line):
        return bool(re.fullmatch("row( (-1|0|1)){%d}" % table.many, line)) and len(found) < table.size

    def is_enough(found):
        if len(found) != table.size:
            return False
        rows = [ints(line) for line in found]
        return all([abs(number) for number in row] == [int(k in lot) for k in range(table.many)] and row[lot[0]] == 1
                   for row, lot in zip(rows, table.form))
    return spot_of(text, is_right, is_enough)


def list_spot(text):
    def is_right(found, line):
        if not re.fullmatch(f"wish( {NUMBER})+", line) or len(found) == 100:
            return False
        wish = ints(line)
        return wish == sorted(set(wish)) and wish[-1] < 12 and (not found or ints(found[-1]) < wish)
    return spot_of(text, is_right, lambda found: is_list(tuple(tuple(ints(line)) for line in found)))


def bent(text):
    """Texts that are like this one, but for a sign, a part or a line."""
    lines = text.split("\n")
    found = ["", "\n", text[:-1], text + "\n", text + " ", text + "x", " " + text, "\n" + text, text + text, text * 3]
    for _ in range(12):
        at = CHANCE.randrange(len(text) + 1)
        found.append(text[:at] + CHANCE.choice("0123456789- \nlotx") + text[at:])
        found.append(text[:at] + text[at + 1:])
        found.append(text[:at])
        k = CHANCE.randrange(len(lines))
        other = lines[k].split(" ")
        other[CHANCE.randrange(len(other))] = CHANCE.choice(("0", "1", "-1", "-0", "00", "07", "24", "23", "25", "+1",
                                                             "2",
                                                             "1.0", "", "1e1", "0x1", "out", "lot", "names",
                                                             "9" * 5000))
        found.append("\n".join(lines[:k] + [" ".join(other)] + lines[k + 1:]))
        found.append("\n".join(lines[:k] + lines[k + 1:]))
        found.append("\n".join(lines[:k] + lines[k:k + 1] * 2 + lines[k + 1:]))
    return [other for other in found if len(other) <= 200000]


class Texts(Case):
    def check_spot(self, read, args, text, spot, write):
        if spot is None:
            self.assertEqual(write(*args, read(*args, text)), text)
        else:
            self.check_error(ParseError, {"spot": spot}, read, *args, text)


class Written(Texts):
    """[22.1], [22.2], [22.4]"""

    def test_constants(self):
        self.assertEqual(module.MOST_TEXT, 200000)

    def test_tables(self):
        for table in TABLES:
            text = table_text(table)
            self.assertEqual(text, f"lines {table.many}\n" + "".join(
                "lot" + "".join(f" {line}" for line in lot) + "\n" for lot in table.lots))
            told = read_table(text)
            self.assertEqual((told, told.many, told.lots), (table, table.many, table.lots))

    def test_nets(self):
        for net in NETS:
            text = net_text(net)
            self.assertEqual(text, f"knots {net.knots}\n" + "".join(f"line {a} {b}\n" for a, b in net.lines))
            self.assertEqual(read_net(text), net)

    def test_steps(self):
        for table in TABLES:
            for steps in [some_steps(table) for _ in range(3)] + [()]:
                text = steps_text(table, steps)
                self.assertEqual(text, "".join(f"{word} {line}\n" for word, line in steps))
                self.assertEqual(read_steps(table, text), steps)
                behind(table, read_steps(table, text))

    def test_bars(self):
        for table, bar in BARS:
            word, steps, names = bar
            text = bar_text(table, bar)
            self.assertEqual(text, word + "\n" + "".join(f"{step} {line}\n" for step, line in steps)
                             + "names " + " ".join(map(str, names)) + "\n")
            self.assertEqual(read_bar(table, text), bar)

    def test_signs(self):
        for table in TABLES:
            # Signs of more than 16 lines have a text, too.
            signs = tuple(tuple(1 if line == lot[0] else CHANCE.choice((1, -1)) if line in lot else 0
                                for line in range(table.many)) for lot in table.form)
            text = signs_text(table, signs)
            self.assertEqual(text, "".join("row " + " ".join(map(str, row)) + "\n" for row in signs))
            self.assertEqual(read_signs(table, text), signs)

    def test_lists(self):
        for wishes in LISTS + [ONE, ALL12, EACH12, WIDE, FOURS12]:
            text = list_text(wishes)
            self.assertEqual(text, "".join("wish " + " ".join(map(str, wish)) + "\n" for wish in wishes))
            self.assertEqual(read_list(text), wishes)

    def test_nothing(self):
        self.assertEqual([steps_text(FANO, ()), signs_text(NONE24, ()), table_text(NONE1)], ["", "", "lines 1\n"])
        self.assertEqual([read_steps(FANO, ""), read_signs(NONE24, "")], [(), ()])
        self.assertEqual(table_text(Table(1, ((),))), "lines 1\nlot\n")


class FirstWrongLine(Texts):
    """[22.3]"""

    def test_bent(self):
        for table in TABLES[:60:3] + [FANO, BOTH]:
            for text in bent(table_text(table)):
                self.check_spot(read_table, (), text, table_spot(text), table_text)
            for text in bent(steps_text(table, some_steps(table))):
                self.check_spot(read_steps, (table,), text, steps_spot(table, text), steps_text)
        for net in NETS[::3]:
            for text in bent(net_text(net)):
                self.check_spot(read_net, (), text, net_spot(text), net_text)
        for table, bar in BARS:
            for text in bent(bar_text(table, bar)):
                self.check_spot(read_bar, (table,), text, bar_spot(table, text), bar_text)
        for table in [table for table in TABLES if table.many < 10][::2] + [ROUNDS, FANO]:
            for text in bent(signs_text(table, some_signs(table))):
                self.check_spot(read_signs, (table,), text, signs_spot(table, text), signs_text)
        for wishes in LISTS[::4] + [WIDE, EACH12]:
            for text in bent(list_text(wishes)):
                self.check_spot(read_list, (), text, list_spot(text), list_text)

    def check_told(self, read, args, told):
        for text, spot in told:
            self.check_error(ParseError, {"spot": spot}, read, *args, text)

    def test_tables(self):
        self.check_told(read_table, (), [
            ("", 0), ("\n", 0), ("lines 7", 0), ("lines 0\n", 0), ("lines 25\n", 0), ("lines 07\n", 0),
            ("lines -1\n", 0),
            ("lines\n", 0), ("lines 7 7\n", 0), (" lines 7\n", 0), ("lines  7\n", 0), ("lines 7 \n", 0),
            ("lots 7\n", 0),
            ("lines 7\n\n", 1), ("lines 7\nlot 0 7\n", 1), ("lines 7\nlot 1 0\n", 1), ("lines 7\nlot 0 0\n", 1),
            ("lines 7\nlot 0  1\n", 1), ("lines 7\nlot 0 1", 1), ("lines 7\nlot \n", 1), ("lines 7\nlot -0\n", 1),
            ("lines 7\nlot 00\n", 1), ("lines 7\nlot 0 x\n", 1), ("lines 7\nlot\nlot", 2), ("lines 7\nlines 7\n", 1),
            ("lines 7\nlot 0 7\nlot 8", 1), ("lines 1\n" + "lot 0\n" * 25, 25),
            ("lines 1\n" + "lot 0\n" * 25 + "x", 25),
            ("lines 1\n" + "lot 0\n" * 24 + "lot 0", 25), ("lines 1\n" + "lot 0\n" * 23 + "lot 0", 24),
            ("knots 7\n", 0), ("lines " + "1" * 199990 + "\n", 0), ("lines 2\nlot " + "0" * 150000 + "\n", 1),
            ("lines 24\nlot" + " 0" * 90000 + "\n", 1), ("\n" * 200000, 0), ("lines 2" + "\n" * 199993, 1)])

    def test_nets(self):
        self.check_told(read_net, (), [
            ("", 0), ("knots 0\n", 0), ("knots 26\n", 0), ("knots 4\n", 1), ("knots 4", 0), ("knots 4\nline 0 4\n", 1),
            ("knots 4\nline 1 0\n", 1), ("knots 4\nline 0\n", 1), ("knots 4\nline 0 1 2\n", 1), ("knots 4\nline\n", 1),
            ("knots 4\nline 0 1\nline 0 1", 2), ("knots 4\nline 0 1\n\n", 2), ("knots 4\nlot 0 1\n", 1),
            ("knots 2\n" + "line 0 1\n" * 25, 25), ("knots 25\nline 0 25\n", 1), ("lines 4\nline 0 1\n", 0)])
        self.assertEqual(len(read_net("knots 2\n" + "line 0 1\n" * 24).lines), 24)

    def test_steps(self):
        self.check_told(read_steps, (BOTH,), [
            ("out 5\n", 0), ("out 4\njoin 4\n", 1), ("out 0\n" * 5, 4), ("out 0\n" * 4 + "out 0", 4), ("out\n", 0),
            ("out 0 1\n", 0), ("leave 0\n", 0), ("\n", 0), ("out 0\n\n", 1), ("out 0", 0), ("out 0\njoin -0\n", 1),
            ("out 0\nout 0\nout 0\njoin 2\n", 3), ("Out 0\n", 0), ("out 00\n", 0), ("join 0\nout 4\nout 0", 1)])
        self.check_told(read_steps, (NONE1,), [("out 0\n", 0), ("join 0", 0)])
        self.assertEqual(len(read_steps(NONE24, "out 0\n" * 23)), 23)
        self.check_told(read_steps, (NONE24,), [("out 0\n" * 24, 23)])

    def test_bars(self):
        names = "names 0 1 2 3 4 5 6\n"
        self.assertEqual(read_bar(FANO, "seven\n" + names), ("seven", (), NAMES))
        self.check_told(read_bar, (FANO,), [
            ("", 0), ("seven", 0), ("seven\n", 1), ("eight\n" + names, 0), ("seven 7\n" + names, 0), ("names\n", 0),
            ("seven\nnames\n", 2), ("seven\nnames", 1), ("seven\n" + names[:-1], 1), ("seven\n" + names + names, 2),
            ("seven\n" + names + "\n", 2), ("seven\n" + names + "out 0\n", 2), ("seven\nnames 0 1 2 3 4 5 24\n", 1),
            ("seven\nnames 0 1 2 3 4 5 23\n", 2), ("seven\nnames 0 1 2 3 4 5\n", 2), ("fours\n" + names, 2),
            ("seven\nnames 1 0 2 3 4 5 6\n", 2), ("seven\nout 24\n" + names, 1), ("seven\nout 23\n" + names, 3),
            ("seven\nout 0\n", 2), ("seven\nout\n" + names, 1), ("seven\nout 0 0\n" + names, 1),
            ("seven\n\n" + names, 1),
            ("seven\n" + "out 0\n" * 25 + names, 25), ("seven\n" + "out 0\n" * 24 + names, 26),
            ("seven\n" + "out 0\n" * 24, 25), ("seven\n" + "out 0\n" * 24 + "x", 25), ("seven\nnames 0 0 0\n", 2),
            ("seven\nnames" + " 0" * 90000 + "\n", 2), ("seven\nnames" + " 0" * 90000 + " 24\n", 1)])

    def test_signs(self):
        self.check_told(read_signs, (FEW,), [
            ("", 0), ("row 1 1", 0), ("row 1\n", 0), ("row 1 1 0\n", 0), ("row 1 2\n", 0), ("row 1 -0\n", 0),
            ("row\n", 0),
            ("row 1 +1\n", 0), ("row 1  1\n", 0), ("lot 1 1\n", 0), ("row -1 1\n", 1), ("row 1 0\n", 1),
            ("row 0 0\n", 1),
            ("row 1 1\nrow 1 1\n", 1), ("row 1 1\n\n", 1), ("row 1 1\nx", 1), ("row 1 01\n", 0)])
        self.check_told(read_signs, (NONE24,), [("row" + " 0" * 24 + "\n", 0), ("\n", 0)])
        self.assertEqual(read_signs(FEW, "row 1 1\n"), ((1, 1),))
        self.assertEqual(read_signs(FEW, "row 1 -1\n"), ((1, -1),))
        # Not right ones are signs, too.
        self.assertEqual(read_signs(ROUNDS, signs_text(ROUNDS, ONES)), ONES)

    def test_numbers_of_signs(self):
        words = signs_text(ROUNDS, RIGHT).split("\n")[:-1]
        self.assertEqual({word for row in words for word in row.split(" ")}, {"row", "-1", "0", "1"})
        for k in range(len(words)):
            for at in range(1, ROUNDS.many + 1):
                for other in ("2", "-2", "-0", "+1", "01", "--1", "-", "", "1.0", "True", "x", "9" * 60):
                    row = words[k].split(" ")
                    row[at] = other
                    text = "\n".join(words[:k] + [" ".join(row)] + words[k + 1:]) + "\n"
                    self.check_error(ParseError, {"spot": k}, read_signs, ROUNDS, text)
        self.assertEqual(read_signs(ROUNDS, signs_text(ROUNDS, RIGHT)), RIGHT)
        # These numbers are right in each row, so the whole is told to make no signs.
        for number in ("-1", "0", "1"):
            row = "row" + f" {number}" * ROUNDS.many + "\n"
            self.check_error(ParseError, {"spot": 3}, read_signs, ROUNDS, row * 3)

    def test_lists(self):
        self.check_told(read_list, (), [
            ("", 0), ("wish\n", 0), ("wish 0", 0), ("wish 1\n", 1), ("wish 12\n", 0), ("wish 0 0\n", 0),
            ("wish 1 0\n", 0),
            ("wish 0\nwish 0\n", 1), ("wish 1\nwish 0\n", 1), ("wish 0\nwish 0 1\n", 2), ("wish 0\nwish 2\n", 2),
            ("wish 0 1\nwish 0 1 2\nwish 3\n", 3), ("wish 0 1\nwish 0\n", 1), ("lot 0\n", 0), ("wish 0\n\n", 1)])
        lines = ["wish " + " ".join(map(str, wish)) + "\n" for wish in WIDE]
        self.assertEqual(read_list("".join(lines)), WIDE)
        self.check_told(read_list, (), [("".join(lines) + "wish 1 2 3 4 5 6\n", 100),
                                        ("".join(lines) + "wish 11\n", 100),
                                        ("".join(lines[:99]) + "wish 11\n", 100), ("".join(lines)[:-1], 99)])


class Wrong(Texts):
    def readers(self):
        return [(read_table, ()), (read_net, ()), (read_steps, (BOTH,)), (read_bar, (FANO,)), (read_signs, (ROUNDS,)),
                (read_list, ())]

    def test_no_texts(self):
        no_texts = [None, 3, True, [], ["lines 2\n"], (), ("lines 2\n",), {}, b"lines 2\n", FANO, WHEEL, "lines 2\r\n",
                    "lines\t2\n", "lines 2\u00a0\n", "l\u00efnes 2\n", "lines \u0662\n", "x" * 200001, "\n" * 250000,
                    "lines 2\x7f\n", "\x00", "lines 2\x0b", "lines 2\x1f\n", "\u2028", "lines 2\n" * 25001, "\x85"]
        for read, args in self.readers():
            for text in no_texts:
                self.check_error(InvalidText, {}, read, *args, text)

    def test_every_sign(self):
        for read, args in self.readers():
            for code in range(160):
                is_sign = 32 <= code < 127 or code == 10
                self.check_error(ParseError if is_sign else InvalidText, {"spot": 0} if is_sign else {}, read, *args,
                                 chr(code) + "~")

    def test_longest(self):
        for read, args in self.readers():
            for text in ("x" * 200000, "~" * 199999 + "\n", " " * 200000, "\n" * 200000):
                before = time.perf_counter()
                self.check_error(ParseError, {"spot": 0}, read, *args, text)
                self.assertLess(time.perf_counter() - before, 2)
        self.check_error(ParseError, {"spot": 1}, read_table, "lines 24\nlot" + " 0" * 99993)
        self.check_error(ParseError, {"spot": 2}, read_bar, FANO, "seven\nnames" + " 1" * 99993 + "\n")

    def test_wrong(self):
        tables, texts = (InvalidTable, NOT_TABLES), (InvalidText, [None, 3, "\t", "x" * 200001, ["out 0\n"]])
        self.check_wrong(table_text, (FANO,), [tables])
        self.check_wrong(net_text, (WHEEL,), [(InvalidNet, NOT_NETS)])
        self.check_wrong(list_text, (BRIDGE,), [(InvalidList, not_lists())])
        for read, text in ((read_steps, "out 0\n"), (read_bar, "x"), (read_signs, "x")):
            self.check_wrong(read, (BOTH, text), [tables, texts])
        for read in (read_table, read_net, read_list):
            self.check_wrong(read, ("x",), [texts])
        steps = (InvalidOperation, [None, 3, [], (("out", 5),), (("out", 0),) * 5, ("out", 0), (("out", True),),
                                    "out 0",
                                    (("Out", 0),), (("out", 0, 0),), (["out", 0],), {}, FANO,
                                    (("out", 4), ("join", 4))])
        self.check_wrong(steps_text, (BOTH, (("out", 0),)), [tables, steps])
        bars = (InvalidOperation, [None, (), ("seven", ()), ("fours", (), NAMES), ("seven", (), NAMES[::-1]),
                                   ["seven", (), NAMES], ("seven", [], NAMES), ("seven", (), list(NAMES)), FANO,
                                   "seven",
                                   ("seven", (("out", 7),), NAMES), {}, 3, (True, (), NAMES)])
        self.check_wrong(bar_text, (FANO, ("seven", (), NAMES)), [tables, bars])
        signs = (InvalidSigns, [None, (), ONES[:2], ONES + ONES[:1], list(ONES), True, "signs", {}, FANO, ONES[::-1],
                                ((True, 0, 1, 0, 1, 0),) + ONES[1:], ((1, 0, 2, 0, 1, 0),) + ONES[1:]])
        for right in (ONES, RIGHT):
            self.check_wrong(signs_text, (ROUNDS, right), [tables, signs])


class NotTrue(Case):
    """[22.5]"""

    def test_equal_tables(self):
        other = Table(7, FANO.lots[::-1])
        self.assertEqual(other, FANO)
        self.assertNotEqual(table_text(other), table_text(FANO))

    def test_line_left_out(self):
        lines = table_text(BOTH).split("\n")
        self.check_error(ParseError, {"spot": 0}, read_table, "\n".join(lines[1:]))

    def test_beginning_of_steps(self):
        text = steps_text(BOTH, (("out", 4), ("join", 0)))
        self.check_error(ParseError, {"spot": 0}, read_steps, BOTH, text[:5])
        self.check_error(ParseError, {"spot": 1}, read_steps, BOTH, text[:-1])
        self.assertEqual(read_steps(BOTH, text[:6]), (("out", 4),))

    def test_others(self):
        for net in [hanging_net(CHANCE, 5, 8) for _ in range(5)]:
            table = table_of(net)
            told = signs_or_bar(table)[1]
            self.assertEqual(read_signs(table, signs_text(table, told)), told)
        self.assertEqual(read_table(table_text(widened(SPLIT, (0,)))), widened(SPLIT, (0,)))
