"""Names, parts, and the kinds to which paths lead (points 3 and 10)."""

import unittest

from everyfork.kinds import is_name, kind_at, parts
from tests.samples import THINGS, WHOLE

SHEET = [(("title",), "text"), (("at", "x"), "num"), (("at", "y"), "num"), (("cells",), "row")]


class Names(unittest.TestCase):
    def test_names(self):
        for name in ("a", "z", "abcdefgh", "let", "end", "else", "record", "was", "name", "zzzzzzzz", "give", "ranges"):
            self.assertIs(is_name(name), True, name)

    def test_words_that_are_none(self):
        for word in ("num", "text", "row", "gives", "rounds", "range"):
            self.assertIs(is_name(word), False, word)

    def test_length(self):
        self.assertIs(is_name(""), False)
        self.assertIs(is_name("abcdefghi"), False)

    def test_other_signs(self):
        for name in ("A", "aB", "a1", "1", "a_b", "_", "a b", " a", "a ", "-", "a-", "a~", "a\n", "\u00e4", "\u00df"):
            self.assertIs(is_name(name), False, name)

    def test_other_things(self):
        for thing in THINGS:
            if not isinstance(thing, str):
                self.assertIs(is_name(thing), False, thing)


class Parts(unittest.TestCase):
    def test_plain_kinds(self):
        for kind in ("num", "text", "row"):
            self.assertEqual(parts(WHOLE, kind), [((), kind)])

    def test_record(self):
        self.assertEqual(parts(WHOLE, "point"), [(("x",), "num"), (("y",), "num")])

    def test_records_within(self):
        self.assertEqual(parts(WHOLE, "sheet"), SHEET)
        wanted = [((field,) + path, sort) for field in ("one", "two") for path, sort in SHEET]
        self.assertEqual(parts(WHOLE, "book"), wanted)

    def test_kinds_told(self):
        told = parts(WHOLE, "sheet")
        self.assertIs(type(told), list)
        for one in told:
            self.assertIs(type(one), tuple)
            self.assertIs(type(one[0]), tuple)

    def test_told_anew(self):
        told = parts(WHOLE, "sheet")
        told.clear()
        self.assertEqual(parts(WHOLE, "sheet"), SHEET)
        parts(WHOLE, "num").append(0)
        self.assertEqual(parts(WHOLE, "num"), [((), "num")])


class KindAt(unittest.TestCase):
    def test_the_kind_itself(self):
        for kind in ("num", "text", "row", "point", "sheet", "book"):
            self.assertEqual(kind_at(WHOLE, kind, ()), kind)

    def test_parts_and_records(self):
        self.assertEqual(kind_at(WHOLE, "book", ("one",)), "sheet")
        self.assertEqual(kind_at(WHOLE, "book", ("two", "at")), "point")
        self.assertEqual(kind_at(WHOLE, "book", ("two", "at", "y")), "num")
        self.assertEqual(kind_at(WHOLE, "book", ("one", "title")), "text")
        self.assertEqual(kind_at(WHOLE, "sheet", ("cells",)), "row")

    def test_each_part(self):
        for kind in ("num", "text", "row", "point", "sheet", "book"):
            for path, sort in parts(WHOLE, kind):
                self.assertEqual(kind_at(WHOLE, kind, path), sort)

    def test_nowhere(self):
        for kind, path in (("num", ("x",)), ("text", ("x",)), ("row", ("x",)), ("point", ("z",)), ("point", ("x", "x")),
                           ("book", ("x",)), ("book", ("one", "x")), ("book", ("one", "at", "z")),
                           ("book", ("three", "at")), ("sheet", ("at", "x", "y")), ("sheet", ("",)),
                           ("book", ("sheet",)), ("sheet", ("point",))):
            self.assertIsNone(kind_at(WHOLE, kind, path), (kind, path))


if __name__ == "__main__":
    unittest.main()
