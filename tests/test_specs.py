"""Specs, bounds, names put by terms, and how facts are shown (points 53 and 54)."""

import copy
import unittest

from everyfork.facts import holds
from everyfork.forms import put_in
from everyfork.refuting import refutes
from everyfork.specs import facts_to_refute, is_bound, is_spec, names_by
from everyfork.stating import noughts, unknowns_from
from tests.formed import Former, form, least
from tests.samples import RECORDS, THINGS, nested
from tests.walked import name, was

ZERO = (0, ())
PROGRAM = (RECORDS, (
    ("f", (("n", "num"), ("t", "text"), ("r", "row"), ("s", "sheet")), (("i", "num"), ("q", "row"), ("p", "point")), "sheet", ()),
    ("g", (("z", "num"),), (("w", "text"),), "num", ()),
    ("h", (), (), "text", ()),
))
PARAMS = {("n",): "num", ("t",): "row", ("r",): "row", ("s", "title"): "row", ("s", "at", "x"): "num",
          ("s", "at", "y"): "num", ("s", "cells"): "row"}
LOCALS = {("i",): "num", ("q",): "row", ("p", "x"): "num", ("p", "y"): "num"}
GIVES = {("gives", "title"): "row", ("gives", "at", "x"): "num", ("gives", "at", "y"): "num", ("gives", "cells"): "row"}
# Records, parts that there aren't, other functions' variables.
NONE = (("s",), ("s", "at"), ("p",), ("n", "x"), ("s", "x"), ("s", "at", "z"), ("s", "title", "x"), ("z",), ("w",), ("gives",),
        ("gives", "at"), ("rounds",), ("",), ("f",), ("i", "i"))
SORTS = ("pre", "post", "now", "kept")


def as_number(one):
    """Facts in which a name stands as a number."""
    return [least(3, (one, -2)), least(0, (("div", form(1, (one, 1)), 7), 1)), least(0, (("at", ("rows", (ZERO,)), form(0, (one, 1))), 1)),
            ("each", ("rows", (form(0, (one, 1)),)), ZERO, ZERO, 1, 0, ZERO), ("each", ("rows", ()), form(0, (one, 1)), ZERO, 1, 0, ZERO),
            ("each", ("rows", ()), ZERO, form(0, (one, 1)), 1, 0, ZERO), ("each", ("rows", ()), ZERO, ZERO, 1, 0, form(0, (one, 1)))]


def as_row(one):
    """Facts in which a name stands as a row."""
    return [least(0, (("len", one), 1)), least(0, (("at", one, ZERO), 1)), ("each", one, ZERO, ZERO, 1, 2, ZERO),
            least(0, (("at", ("put", one, ZERO, ZERO), ZERO), 1)), least(0, (("at", ("more", one, ZERO), ZERO), 1))]


class Specs(unittest.TestCase):
    def allowed(self, sort, f="f"):
        """The names that a sort may have, by point 53."""
        told = {("name", path): one for path, one in PARAMS.items()}
        if sort == "post":
            told.update({("name", path): one for path, one in GIVES.items()})
        if sort in ("now", "kept"):
            told.update({("name", path): one for path, one in LOCALS.items()})
        if sort == "kept":
            told.update({("was", path): one for path, one in list(PARAMS.items()) + list(LOCALS.items())})
            told[("rounds",)] = "num"
        return told

    def test_each_name_in_each_sort(self):
        paths = list(PARAMS) + list(LOCALS) + list(GIVES) + list(NONE)
        names = [(head, path) for path in paths for head in ("name", "was")] + [("rounds",)]
        for sort in SORTS:
            allowed = self.allowed(sort)
            for one in names:
                for fact in as_number(one):
                    self.assertIs(is_spec(PROGRAM, "f", sort, fact), allowed.get(one) == "num", (sort, fact))
                for fact in as_row(one) if one != ("rounds",) else ():
                    self.assertIs(is_spec(PROGRAM, "f", sort, fact), allowed.get(one) == "row", (sort, fact))

    def test_rounds_as_a_row(self):
        for fact in as_row(("rounds",)):
            self.assertIs(is_spec(PROGRAM, "f", "kept", fact), False)

    def test_other_functions(self):
        self.assertIs(is_spec(PROGRAM, "g", "pre", least(0, (name("z"), 1))), True)
        self.assertIs(is_spec(PROGRAM, "g", "pre", least(0, (("len", name("w")), 1))), False)
        self.assertIs(is_spec(PROGRAM, "g", "now", least(0, (("len", name("w")), 1))), True)
        self.assertIs(is_spec(PROGRAM, "g", "post", least(0, (name("gives"), 1))), True)
        self.assertIs(is_spec(PROGRAM, "g", "kept", least(0, (name("gives"), 1))), False)
        self.assertIs(is_spec(PROGRAM, "g", "now", least(0, (name("n"), 1))), False)
        self.assertIs(is_spec(PROGRAM, "h", "post", least(0, (("len", name("gives")), 1))), True)
        self.assertIs(is_spec(PROGRAM, "h", "post", least(0, (name("gives"), 1))), False)
        for sort in SORTS:
            self.assertIs(is_spec(PROGRAM, "h", sort, least(-7)), True)

    def test_one_wrong_name_among_right_ones(self):
        fact = ("each", name("r"), form(0, (name("n"), 1)), form(0, (("len", name("t")), 1)), 1, 1, form(0, (name("s", "at", "x"), 1)))
        for sort in SORTS:
            self.assertIs(is_spec(PROGRAM, "f", sort, fact), True)
            self.assertIs(is_spec(PROGRAM, "f", sort, fact[:6] + (form(0, (name("s", "at"), 1)),)), False)
            self.assertIs(is_spec(PROGRAM, "f", sort, fact[:2] + (form(0, (name("n"), 1), (name("t"), 1)),) + fact[3:]), False)

    def test_a_name_as_a_number_and_as_a_row(self):
        for sort in SORTS:
            self.assertIs(is_spec(PROGRAM, "f", sort, least(0, (name("r"), 1), (("len", name("r")), 1))), False)

    def test_unknowns(self):
        for one in (("n", 0), ("len", ("r", 0)), ("at", ("t", 3), ZERO), ("at", name("r"), form(0, (("n", 9), 1)))):
            for sort in SORTS:
                self.assertIs(is_spec(PROGRAM, "f", sort, least(0, (one, 1))), False)
            self.assertIs(is_bound(PROGRAM, "f", form(0, (one, 1))), False)

    def test_bounds(self):
        def deep(many):
            told = form(0, (name("n"), 1))
            for _ in range(many):
                told = form(0, (("div", told, 2), 1))
            return told
        for sort in SORTS:
            self.assertIs(is_spec(PROGRAM, "f", sort, ("least", deep(5))), True)
            self.assertIs(is_spec(PROGRAM, "f", sort, ("least", deep(6))), False)
        self.assertIs(is_bound(PROGRAM, "f", deep(5)), True)
        self.assertIs(is_bound(PROGRAM, "f", deep(6)), False)
        wide = lambda many: ("rows", tuple((k, ()) for k in range(many)))
        # The form, its at, the row, its forms, the place.
        self.assertIs(is_spec(PROGRAM, "f", "pre", least(0, (("at", wide(196), ZERO), 1))), True)
        self.assertIs(is_spec(PROGRAM, "f", "pre", least(0, (("at", wide(197), ZERO), 1))), False)
        self.assertIs(is_bound(PROGRAM, "f", form(0, (("at", wide(196), ZERO), 1))), True)
        self.assertIs(is_bound(PROGRAM, "f", form(0, (("at", wide(197), ZERO), 1))), False)

    def test_any_plain_thing(self):
        things = THINGS + (ZERO, [("least", ZERO)], ("least", [0, ()]), ("least", ZERO, ZERO), ["least", ZERO], ("least", (True, ())),
                           ("least", (0, ((name("n"), True),))), ("least", (0, ((name("n"), 0),))), ("least", (0, ((("name", ["n"]), 1),))),
                           ("each", name("r"), ZERO, ZERO, True, 0, ZERO), ("name", ("n",)), nested(39, "n"), ("least", nested(37)))
        for thing in things:
            for sort in SORTS:
                self.assertIs(is_spec(PROGRAM, "f", sort, thing), False, thing)
            if thing != ZERO:
                self.assertIs(is_bound(PROGRAM, "f", thing), False, thing)

    def test_bound(self):
        for path, sort in list(PARAMS.items()) + list(LOCALS.items()):
            self.assertIs(is_bound(PROGRAM, "f", form(4, (name(*path), 3))), sort == "num")
            self.assertIs(is_bound(PROGRAM, "f", form(4, (("len", name(*path)), 3))), sort == "row")
            self.assertIs(is_bound(PROGRAM, "f", form(4, (was(*path), 3))), False)
        for path in NONE + tuple(GIVES):
            self.assertIs(is_bound(PROGRAM, "f", form(4, (name(*path), 3))), False)
            self.assertIs(is_bound(PROGRAM, "f", form(4, (("len", name(*path)), 3))), False)
        self.assertIs(is_bound(PROGRAM, "f", form(0, (("rounds",), 1))), False)
        self.assertIs(is_bound(PROGRAM, "f", ZERO), True)
        self.assertIs(is_bound(PROGRAM, "f", ("least", ZERO)), False)


class Names(unittest.TestCase):
    def test_all_parts_of_all_variables(self):
        terms, count = [], 0
        for variable, kind in PROGRAM[1][0][1] + PROGRAM[1][0][2]:
            told, count = unknowns_from(PROGRAM, kind, count)
            terms.append((variable, told))
        terms = tuple(terms)
        number = lambda k: form(0, (("n", k), 1))
        wanted = {("n",): number(0), ("t",): ("t", 1), ("r",): ("r", 2), ("s", "title"): ("t", 3), ("s", "at", "x"): number(4),
                  ("s", "at", "y"): number(5), ("s", "cells"): ("r", 6), ("i",): number(7), ("q",): ("r", 8),
                  ("p", "x"): number(9), ("p", "y"): number(10)}
        for head in ("name", "was"):
            told = names_by(PROGRAM, "f", terms, head)
            self.assertEqual(told, {(head, path): term for path, term in wanted.items()})
            told.clear()
            self.assertEqual(names_by(PROGRAM, "f", terms, head), {(head, path): term for path, term in wanted.items()})

    def test_records_within_records(self):
        program = (RECORDS, (("f", (("b", "book"),), (), "num", ()),))
        told = names_by(program, "f", (("b", noughts(program, "book")),), "name")
        paths = [("title",), ("at", "x"), ("at", "y"), ("cells",)]
        self.assertEqual(list(told), [("name", ("b", one) + path) for one in ("one", "two") for path in paths])
        self.assertEqual(list(told.values()), [("rows", ()), ZERO, ZERO, ("rows", ())] * 2)

    def test_no_variables(self):
        self.assertEqual(names_by(PROGRAM, "h", (), "name"), {})


class Shown(unittest.TestCase):
    FACTS = [least(1, (("n", 0), 1)), ("each", ("r", 1), ZERO, ZERO, 1, 0, ZERO)]

    def told(self, count, fact, *wanted):
        facts = copy.deepcopy(self.FACTS)
        told = facts_to_refute(facts, count, fact)
        self.assertEqual(told, self.FACTS + list(wanted))
        self.assertIs(type(told), list)
        told.clear()
        self.assertEqual(facts, self.FACTS)
        self.assertEqual(facts_to_refute(facts, count, fact), self.FACTS + list(wanted))

    def test_least(self):
        self.told(2, least(0), least(-1))
        self.told(2, least(5, (("n", 0), 3)), least(-6, (("n", 0), -3)))

    def test_each(self):
        k = ("n", 7)
        first, behind, rest = form(1, (("n", 0), 1)), form(9, (("n", 0), 2)), form(-4, (("n", 0), 5))
        at = ("at", ("r", 1), form(0, (k, 1)))
        self.told(7, ("each", ("r", 1), first, behind, 3, -2, rest),
                  least(-1, (k, 1), (("n", 0), -1)), least(8, (("n", 0), 2), (k, -1)), least(0, (k, 1)),
                  least(-1, (("len", ("r", 1)), 1), (k, -1)), least(3, (at, -3), (k, 2), (("n", 0), -5)))

    def test_each_of_a_made_row(self):
        k = ("n", 2)
        put = ("put", ("more", ("t", 1), ZERO), ZERO, ZERO)
        at = ("at", put, form(0, (k, 1)))
        self.told(2, ("each", put, ZERO, (4, ()), 1, 0, ZERO),
                  least(0, (k, 1)), least(3, (k, -1)), least(0, (k, 1)), least(0, (("len", ("t", 1)), 1), (k, -1)), least(-1, (at, -1)))
        rows = ("rows", (ZERO, (5, ())))
        at = ("at", rows, form(0, (k, 1)))
        self.told(2, ("each", rows, ZERO, (4, ()), 0, 1, ZERO),
                  least(0, (k, 1)), least(3, (k, -1)), least(0, (k, 1)), least(1, (k, -1)), least(-1, (k, -1)))
        self.told(2, ("each", rows, ZERO, (4, ()), -1, 0, ZERO),
                  least(0, (k, 1)), least(3, (k, -1)), least(0, (k, 1)), least(1, (k, -1)), least(-1, (at, 1)))

    def test_what_is_refuted_is_shown(self):
        """In each model of the facts the fact holds, or some number for the count makes all that is to refute hold."""
        former = Former(54)
        seen = set()
        for _ in range(400):
            fact, model = former.fact(3), former.model()
            told = facts_to_refute([], 50, fact)
            wrong = any(all(holds(one, {**model, ("n", 50): k}) for one in told) for k in range(-1, 8))
            self.assertEqual(wrong, not holds(fact, model), (fact, model))
            seen.add((fact[0], wrong))
        self.assertEqual(len(seen), 4)

    def test_a_refutation(self):
        facts = [("each", ("r", 0), ZERO, (3, ()), 1, 0, (-1, ()))]
        told = facts_to_refute(facts, 1, ("each", ("r", 0), (1, ()), (2, ()), 2, 0, (-2, ())))
        k = form(0, (("n", 1), 1))
        steps = (("each", 0, k), ("sum", ((1, 1), (6, 1))), ("sum", ((2, 1), (6, 1))), ("sum", ((3, 1), (6, 1))), ("sum", ((4, 1), (6, 1))),
                 ("sum", ((5, 1), (6, 2))))
        self.assertTrue(refutes(told, steps))

    def test_names_are_put_ahead(self):
        names = {name("n"): form(0, (("n", 0), 1))}
        self.assertEqual(facts_to_refute([], 1, put_in(least(0, (name("n"), 2)), names)), [least(-1, (("n", 0), -2))])


if __name__ == "__main__":
    unittest.main()
