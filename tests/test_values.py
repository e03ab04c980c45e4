"""Values, noughts, and values laid flat (points 2, 3 and 10)."""

import copy
import unittest

from everyfork.kinds import parts
from everyfork.values import flat, is_value, nought, unflat
from tests.samples import THINGS, WHOLE, Maker, nested

KINDS = ("num", "text", "row", "point", "sheet", "book")
SHEET = ("t", (1, 2), (3, 4))


class IsValue(unittest.TestCase):
    def told(self, kind, thing, wanted):
        self.assertIs(is_value(WHOLE, kind, thing), wanted, (kind, thing))

    def test_num(self):
        for thing in (0, 1, -1, 10 ** 60, -10 ** 60):
            self.told("num", thing, True)
        for thing in (True, False, None, "", "1", (), (1,), [1], 1.0):
            self.told("num", thing, False)

    def test_text(self):
        for thing in ("", " ", "~", "a b", "x" * 60, "\"\\'", "".join(chr(k) for k in range(32, 127) if k != 37)):
            self.told("text", thing, True)
        for thing in (0, True, None, (), ("a",), ["a"], "%", "a%", "a\n", "\t", "\x7f", "\x1f", "\u00e4"):
            self.told("text", thing, False)

    def test_row(self):
        for thing in ((), (0,), (1, -2, 3), (0,) * 60, (10 ** 59,)):
            self.told("row", thing, True)
        for thing in ([], [0], (True,), (0, False), (None,), ("",), ((),), ((0,),), 0, None, "", "ab", (0, [])):
            self.told("row", thing, False)

    def test_record(self):
        self.told("point", (1, 2), True)
        self.told("sheet", SHEET, True)
        self.told("book", (SHEET, SHEET), True)
        for thing in ((), (1,), (1, 2, 3), [1, 2], (1, True), (1, None), (1, "2"), (1, (2,)), 1, None, "ab", True):
            self.told("point", thing, False)

    def test_record_within(self):
        for thing in (("t", [1, 2], ()), ("t", (1, 2), []), ["t", (1, 2), ()], ("t", (1,), ()), ("t", (1, 2, 3), ()),
                      ("t", (1, 2)), ("t", (1, 2), (), ()), (0, (1, 2), ()), ("t", 1, 2, ()), ("t", (1, 2), (True,)),
                      ("t", (1, False), ()), ("%", (1, 2), ())):
            self.told("sheet", thing, False)
            self.told("book", (SHEET, thing), False)
            self.told("book", (thing, SHEET), False)

    def test_deep_things(self):
        for kind in KINDS:
            for thing in (nested(40), nested(39, 0), nested(39, "a"), [nested(38)], (nested(39, 0), 1)):
                self.told(kind, thing, False)
        self.told("sheet", (nested(39), (1, 2), ()), False)
        self.told("sheet", ("", nested(39), ()), False)
        self.told("sheet", ("", (1, 2), nested(39)), False)

    def test_a_truth_is_told_of_any_thing(self):
        for kind in KINDS:
            for thing in THINGS:
                self.assertIs(type(is_value(WHOLE, kind, thing)), bool)


class Flat(unittest.TestCase):
    def test_nought(self):
        self.assertEqual(nought(WHOLE, "num"), 0)
        self.assertIs(type(nought(WHOLE, "num")), int)
        self.assertEqual(nought(WHOLE, "text"), "")
        self.assertEqual(nought(WHOLE, "row"), ())
        self.assertEqual(nought(WHOLE, "point"), (0, 0))
        self.assertEqual(nought(WHOLE, "sheet"), ("", (0, 0), ()))
        self.assertEqual(nought(WHOLE, "book"), (("", (0, 0), ()), ("", (0, 0), ())))

    def test_nought_is_a_value(self):
        for kind in KINDS:
            self.assertIs(is_value(WHOLE, kind, nought(WHOLE, kind)), True)

    def test_flat(self):
        self.assertEqual(flat(WHOLE, "num", 5), (5,))
        self.assertEqual(flat(WHOLE, "text", "ab"), ("ab",))
        self.assertEqual(flat(WHOLE, "row", (1, 2)), ((1, 2),))
        self.assertEqual(flat(WHOLE, "row", ()), ((),))
        self.assertEqual(flat(WHOLE, "point", (1, 2)), (1, 2))
        self.assertEqual(flat(WHOLE, "sheet", SHEET), ("t", 1, 2, (3, 4)))
        self.assertEqual(flat(WHOLE, "book", (("a", (1, 2), ()), ("b", (3, 4), (5,)))), ("a", 1, 2, (), "b", 3, 4, (5,)))

    def test_unflat(self):
        self.assertEqual(unflat(WHOLE, "num", (5,)), 5)
        self.assertEqual(unflat(WHOLE, "text", ("ab",)), "ab")
        self.assertEqual(unflat(WHOLE, "row", ((1, 2),)), (1, 2))
        self.assertEqual(unflat(WHOLE, "sheet", ("t", 1, 2, (3, 4))), SHEET)
        self.assertEqual(unflat(WHOLE, "book", ("a", 1, 2, (), "b", 3, 4, (5,))), (("a", (1, 2), ()), ("b", (3, 4), (5,))))

    def test_there_and_back(self):
        maker = Maker(1)
        for kind in KINDS:
            for _ in range(30):
                value = maker.value(kind)
                before = copy.deepcopy(value)
                laid = flat(WHOLE, kind, value)
                self.assertIs(type(laid), tuple)
                self.assertEqual(len(laid), len(parts(WHOLE, kind)))
                self.assertEqual(unflat(WHOLE, kind, laid), value)
                self.assertEqual(flat(WHOLE, kind, unflat(WHOLE, kind, laid)), laid)
                for (_, sort), part in zip(parts(WHOLE, kind), laid):
                    self.assertIs(is_value(WHOLE, sort, part), True)
                self.assertEqual(value, before)


if __name__ == "__main__":
    unittest.main()
