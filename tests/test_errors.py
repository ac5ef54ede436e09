"""[0.24]: the errors, what they are derived from, and what they keep."""

import unittest

from ringtables import errors
from tests.support import FANO, WHEEL

MESSAGES = ("InvalidLot", "InvalidTable", "InvalidNet", "InvalidSigns", "InvalidList", "InvalidRow", "InvalidText",
            "InvalidClaim", "InvalidOperation")
KEEPING = (("ParseError", errors.RingError, "spot"), ("InvalidNumber", IndexError, "given"),
           ("UnknownName", LookupError, "wanted"), ("NothingToUndo", LookupError, "done"),
           ("TooMany", OverflowError, "limit"), ("Refused", ArithmeticError, "reason"))


class Errors(unittest.TestCase):
    def test_base(self):
        self.assertEqual(errors.RingError.__bases__, (ValueError,))
        self.assertEqual(str(errors.RingError("a message")), "a message")

    def test_messages(self):
        for name in MESSAGES:
            error = getattr(errors, name)
            self.assertEqual(error.__bases__, (errors.RingError,), name)
            self.assertEqual(str(error("a message")), "a message")

    def test_keeping(self):
        for name, base, kept in KEEPING:
            error = getattr(errors, name)
            self.assertEqual(error.__bases__, (base,), name)
            for value in (3, -1, True, None, "eight", ("nothing",), [1], {"a": (1,)}, 10 ** 99, FANO, WHEEL):
                made = error(value)
                self.assertIs(getattr(made, kept), value)
                self.assertEqual(repr(made), f"{name}({value!r})")
                with self.assertRaises(error) as caught:
                    raise made
                self.assertIs(getattr(caught.exception, kept), value)
            self.assertIs(getattr(error(**{kept: FANO}), kept), FANO)
            self.assertRaises(TypeError, error)

    def test_not_from_one_another(self):
        named = [getattr(errors, name) for name in MESSAGES + tuple(name for name, _, _ in KEEPING)]
        for one in named:
            for other in named:
                self.assertEqual(issubclass(one, other), one is other)

    def test_none_is_iterated_over(self):
        for error in (errors.RingError("x"), errors.Refused(("nothing",)), errors.ParseError(1)):
            self.assertRaises(TypeError, iter, error)

    def test_no_other_errors(self):
        found = [name for name in vars(errors) if not name.startswith("_")]
        self.assertEqual(sorted(found), sorted(MESSAGES + tuple(name for name, _, _ in KEEPING) + ("RingError",)))
