"""Rooms, their inputs in order, and their facts (points 23, 24 and 25)."""

import copy
import itertools
import unittest

from everyfork.programs import function_of
from everyfork.rooms import how_many, in_room, inputs, is_room, room_facts, size_of
from everyfork.values import is_value
from tests.samples import RECORDS, THINGS, function, nested

ROOM = (-1, 2, 2, 97, 98)


def of_params(*kinds, records=RECORDS):
    """A program whose function f has params of these kinds, called a, b, .."""
    return (records, (function((), [("abcd"[place], kind) for place, kind in enumerate(kinds)]),))


def texts_of(room):
    """All texts of a room, the long way."""
    signs = [chr(number) for number in range(room[3], room[4] + 1) if number != 37]
    return ["".join(one) for long in range(room[2] + 1) for one in itertools.product(signs, repeat=long)]


def rows_of(room):
    """All rows of a room, the long way."""
    numbers = range(room[0], room[1] + 1)
    return [one for long in range(room[2] + 1) for one in itertools.product(numbers, repeat=long)]


def all_of(room, kind, records=RECORDS):
    """All values of a kind in a room, the long way."""
    if kind == "num":
        return list(range(room[0], room[1] + 1))
    if kind == "text":
        return texts_of(room)
    if kind == "row":
        return rows_of(room)
    return list(itertools.product(*[all_of(room, inner, records) for _, inner in dict(records)[kind]]))


def form_value(form, model):
    """The value of a form in a model, by point 33, as far as facts of rooms go."""
    told = form[0]
    for thing, times in form[1]:
        told += times * (len(model[thing[1]]) if thing[0] == "len" else model[thing])
    return told


def holds(fact, model):
    """Whether a fact holds in a model, by point 34."""
    if fact[0] == "least":
        return form_value(fact[1], model) >= 0
    _, name, first, behind, a, b, rest = fact
    for k in range(form_value(first, model), form_value(behind, model)):
        if 0 <= k < len(model[name]) and a * model[name][k] + b * k + form_value(rest, model) < 0:
            return False
    return True


def model_of(program, values):
    """The model of the params' paths."""
    told = {}
    def lay(path, kind, value):
        if kind in dict(program[0]):
            for (field, inner), part in zip(dict(program[0])[kind], value):
                lay(path + (field,), inner, part)
        else:
            told[("name", path)] = tuple(map(ord, value)) if kind == "text" else value
    for (name, kind), value in zip(function_of(program, "f")[1], values):
        lay((name,), kind, value)
    return told


class IsRoom(unittest.TestCase):
    def test_rooms(self):
        for room in ((0, 0, 0, 32, 32), (-9, 9, 3, 32, 126), (-9, -9, 0, 126, 126), (9, 9, 3, 37, 37), (-1, 2, 1, 97, 122),
                     (-5, -2, 2, 36, 38)):
            self.assertIs(is_room(room), True, room)

    def test_bounds(self):
        for room in ((-10, 0, 0, 32, 32), (0, 10, 0, 32, 32), (1, 0, 0, 32, 32), (9, 8, 0, 32, 32), (10, 10, 0, 32, 32),
                     (-10, -10, 0, 32, 32), (0, 0, -1, 32, 32), (0, 0, 4, 32, 32), (0, 0, 0, 31, 32), (0, 0, 0, 31, 31),
                     (0, 0, 0, 32, 127), (0, 0, 0, 127, 127), (0, 0, 0, 98, 97), (0, 0, 0, 33, 32)):
            self.assertIs(is_room(room), False, room)

    def test_other_things(self):
        for thing in THINGS + (list(ROOM), ROOM[:4], ROOM + (98,), (), nested(40), (ROOM,), "abcde", (0,) * 5):
            self.assertIs(is_room(thing), False, thing)
        for place in range(5):
            for other in (True, False, None, "", "0", "a", (), (0,), [0], nested(39)):
                room = (0, 1, 1, 97, 98)
                self.assertIs(is_room(room[:place] + (other,) + room[place + 1:]), False, other)


class InRoom(unittest.TestCase):
    def told(self, program, room, thing, wanted):
        before = copy.deepcopy((program, room, thing))
        self.assertIs(in_room(program, "f", room, thing), wanted, thing)
        self.assertEqual((program, room, thing), before)

    def test_num(self):
        thing = of_params("num")
        for value in range(-4, 5):
            self.told(thing, ROOM, (value,), -1 <= value <= 2)

    def test_row(self):
        thing = of_params("row")
        for value in ((), (-1,), (2,), (-1, 2), (0, 0)):
            self.told(thing, ROOM, (value,), True)
        for value in ((-2,), (3,), (0, 3), (-2, 0), (0, 0, 0), (0, 0, 9)):
            self.told(thing, ROOM, (value,), False)
        self.told(thing, (0, 0, 0, 32, 32), ((),), True)
        self.told(thing, (0, 0, 0, 32, 32), ((0,),), False)

    def test_text(self):
        thing = of_params("text")
        for value in ("", "a", "b", "ab", "bb"):
            self.told(thing, ROOM, (value,), True)
        for value in ("`", "c", "ac", "ca", "aaa", "A", " "):
            self.told(thing, ROOM, (value,), False)

    def test_37(self):
        thing = of_params("text")
        for value in ("", "$", "&", "$&"):
            self.told(thing, (0, 0, 2, 36, 38), (value,), True)
        for value in ("%", "$%", "#", "'"):
            self.told(thing, (0, 0, 2, 36, 38), (value,), False)
        self.told(thing, (0, 0, 2, 37, 37), ("",), True)
        self.told(thing, (0, 0, 2, 37, 37), ("%",), False)

    def test_records(self):
        thing = of_params("sheet")
        self.told(thing, ROOM, (("a", (1, 2), (-1,)),), True)
        for value in (("c", (1, 2), ()), ("", (3, 2), ()), ("", (1, -2), ()), ("", (1, 2), (3,)), ("", (1, 2), (0, 0, 0))):
            self.told(thing, ROOM, (value,), False)
            self.told(of_params("book"), ROOM, ((("", (0, 0), ()), value),), False)
        self.told(of_params("book"), ROOM, ((("", (0, 0), ()), ("", (0, 0), ())),), True)

    def test_no_params(self):
        self.told(of_params(), ROOM, (), True)
        for value in ([], None, 0, (0,), "", ((),), True):
            self.told(of_params(), ROOM, value, False)

    def test_other_things(self):
        for thing in THINGS:
            if thing not in ((0, "", (), ()),):
                self.told(of_params("num", "text", "row", "point"), ROOM, thing, False)
        for value in ((True,), (None,), ("0",), ((0,),), [0], (0, 0), (), (False,), 0, ([0],), (nested(39),)):
            self.told(of_params("num"), ROOM, value, False)
        for value in (([],), ((True,),), (([0],),), ("",), (0,), (None,), (("0",),)):
            self.told(of_params("row"), ROOM, value, False)
        for value in (([0, 0],), ((0,),), ((0, 0, 0),), ((0, True),), (0, 0), ((0, None),)):
            self.told(of_params("point"), ROOM, value, False)
        for value in ((0, ""), ("", 0), (0,), (0, "", 0)):
            self.told(of_params("num", "text"), ROOM, value, value == (0, ""))


class Inputs(unittest.TestCase):
    KINDS = ((), ("num",), ("text",), ("row",), ("num", "num"), ("num", "text"), ("text", "row"), ("row", "num"), ("point",),
             ("point", "text"), ("small",), ("num", "outer"), ("text", "text", "num"), ("num", "num", "num", "num"), ("row", "row"))
    RECORDS = (("point", (("x", "num"), ("y", "num"))), ("small", (("r", "row"), ("t", "text"))),
               ("outer", (("p", "point"), ("n", "num"))))
    ROOMS = ((0, 0, 0, 32, 32), (-1, 1, 1, 97, 98), (-1, 2, 1, 36, 38), (-2, 1, 1, 37, 37), (0, 1, 2, 126, 126), (2, 3, 2, 96, 97),
             (-3, -2, 1, 32, 33), (-9, 9, 0, 32, 126), (0, 1, 3, 97, 97))

    def parts_of(self, kind, value):
        """The parts of a value, the long way."""
        if kind in dict(self.RECORDS):
            return sum((self.parts_of(inner, part) for (_, inner), part in zip(dict(self.RECORDS)[kind], value)), ())
        return (value,)

    def size(self, part):
        if isinstance(part, tuple):
            return sum(1 + abs(number) for number in part)
        return len(part) if isinstance(part, str) else abs(part)

    def test_all_in_order(self):
        asked = 0
        for kinds in self.KINDS:
            thing = of_params(*kinds, records=self.RECORDS)
            for room in self.ROOMS:
                wanted = list(itertools.product(*[all_of(room, kind, self.RECORDS) for kind in kinds]))
                self.assertEqual(how_many(thing, "f", room), len(wanted))
                if len(wanted) > 400:
                    continue
                asked += 1
                def order(values):
                    laid = sum((self.parts_of(kind, value) for kind, value in zip(kinds, values)), ())
                    return (sum(self.size(part) for part in laid), laid)
                wanted = sorted(wanted, key=order)
                before = copy.deepcopy((thing, room))
                told = inputs(thing, "f", room)
                self.assertEqual(told, wanted)
                self.assertEqual((thing, room), before)
                self.assertEqual(len(set(told)), len(told))
                for one in told:
                    self.assertIs(in_room(thing, "f", room, one), True)
                    self.assertEqual(size_of(thing, "f", one), order(one)[0])
        self.assertGreater(asked, 90)

    def test_orders_that_are_told(self):
        self.assertEqual(inputs(of_params("num"), "f", (-2, 2, 0, 32, 32)), [(0,), (-1,), (1,), (-2,), (2,)])
        self.assertEqual(inputs(of_params("row"), "f", (-1, 1, 2, 32, 32)), [
            ((),), ((0,),), ((-1,),), ((0, 0),), ((1,),), ((-1, 0),), ((0, -1),), ((0, 1),), ((1, 0),),
            ((-1, -1),), ((-1, 1),), ((1, -1),), ((1, 1),)])
        self.assertEqual(inputs(of_params("text"), "f", (0, 0, 2, 36, 38)), [
            ("",), ("$",), ("&",), ("$$",), ("$&",), ("&$",), ("&&",)])
        self.assertEqual(inputs(of_params("num", "num"), "f", (0, 2, 0, 32, 32)), [
            (0, 0), (0, 1), (1, 0), (0, 2), (1, 1), (2, 0), (1, 2), (2, 1), (2, 2)])

    def test_no_params(self):
        self.assertEqual(how_many(of_params(), "f", ROOM), 1)
        self.assertEqual(inputs(of_params(), "f", ROOM), [()])
        self.assertEqual(size_of(of_params(), "f", ()), 0)

    def test_signs_that_are_37_alone(self):
        self.assertEqual(how_many(of_params("text"), "f", (0, 0, 3, 37, 37)), 1)
        self.assertEqual(inputs(of_params("text"), "f", (0, 0, 3, 37, 37)), [("",)])

    def test_very_many(self):
        room = (-9, 9, 3, 32, 126)
        row, text = 1 + 19 + 19 ** 2 + 19 ** 3, 1 + 94 + 94 ** 2 + 94 ** 3
        self.assertEqual(how_many(of_params("row"), "f", room), row)
        self.assertEqual(how_many(of_params("text"), "f", room), text)
        self.assertEqual(how_many(of_params("book", "book", "book", "book"), "f", room), (text * 19 * 19 * row) ** 8)
        self.assertEqual(how_many(of_params("num", "text"), "f", room), 19 * text)

    def test_four_hundred(self):
        self.assertEqual(len(inputs(of_params("num", "num"), "f", (-9, 9, 0, 32, 32))), 361)
        self.assertEqual(len(inputs(of_params("text"), "f", (0, 0, 1, 32, 126))), 95)

    def test_size(self):
        self.assertEqual(size_of(of_params("num"), "f", (-7,)), 7)
        self.assertEqual(size_of(of_params("row"), "f", ((),)), 0)
        self.assertEqual(size_of(of_params("row"), "f", ((0, -3, 2),)), 8)
        self.assertEqual(size_of(of_params("text"), "f", ("~~a",)), 3)
        self.assertEqual(size_of(of_params("book", "num"), "f", ((("ab", (1, -2), (3,)), ("", (0, 0), (0,))), 5)), 15)
        self.assertEqual(size_of(of_params("num"), "f", (-10 ** 59,)), 10 ** 59)

    def test_of_the_function_told(self):
        thing = ((), (function((), (("x", "num"),)), function((), (("x", "text"), ("y", "num")), (), "num", "g")))
        self.assertEqual(how_many(thing, "f", (0, 1, 1, 97, 97)), 2)
        self.assertEqual(how_many(thing, "g", (0, 1, 1, 97, 97)), 4)
        self.assertEqual(inputs(thing, "g", (0, 1, 1, 97, 97)), [("", 0), ("", 1), ("a", 0), ("a", 1)])
        self.assertIs(in_room(thing, "f", (0, 1, 1, 97, 97), (1,)), True)
        self.assertIs(in_room(thing, "g", (0, 1, 1, 97, 97), (1,)), False)

    def test_told_anew(self):
        thing = of_params("num")
        inputs(thing, "f", ROOM).clear()
        self.assertEqual(inputs(thing, "f", ROOM), [(0,), (-1,), (1,), (2,)])


class Facts(unittest.TestCase):
    def check(self, program, room, candidates):
        facts = room_facts(program, "f", room)
        self.assertIs(type(facts), list)
        both = {True: 0, False: 0}
        for values in candidates:
            kinds = [kind for _, kind in function_of(program, "f")[1]]
            self.assertTrue(all(is_value(program, kind, value) for kind, value in zip(kinds, values)))
            wanted = in_room(program, "f", room, values)
            told = all(holds(fact, model_of(program, values)) for fact in facts)
            self.assertEqual(told, wanted, (room, values))
            both[told] += 1
        return both

    def wider(self, room):
        """A room, not one by its bounds, that goes one beyond another in each way."""
        return (room[0] - 1, room[1] + 1, room[2] + 1, max(32, room[3] - 1), min(126, room[4] + 1))

    def test_just_the_inputs(self):
        for room in ((0, 0, 0, 97, 97), (-1, 2, 1, 97, 98), (-2, -1, 2, 36, 38), (1, 2, 2, 37, 37), (-9, 9, 1, 32, 126), (0, 1, 3, 65, 66)):
            for kind in ("num", "row", "text", "point"):
                values = all_of(self.wider(room), kind)
                both = self.check(of_params(kind), room, [(value,) for value in values[:9000]])
                self.assertGreater(both[True], 0)
                self.assertGreater(both[False], 0)

    def test_each_part_one_beyond(self):
        inside = ("ab", (1, 0), (0, 2))
        beyond = [("abb", (1, 0), (0, 2)), ("ac", (1, 0), (0, 2)), ("`b", (1, 0), (0, 2)), ("ab", (3, 0), (0, 2)),
                  ("ab", (1, -2), (0, 2)), ("ab", (1, 0), (0, 3)), ("ab", (1, 0), (-2, 0)), ("ab", (1, 0), (0, 0, 0))]
        both = self.check(of_params("book", "sheet"), ROOM, [((inside, inside), inside)])
        self.assertEqual(both, {True: 1, False: 0})
        for other in beyond:
            both = self.check(of_params("book", "sheet"), ROOM, [((other, inside), inside), ((inside, other), inside),
                                                                 ((inside, inside), other)])
            self.assertEqual(both, {True: 0, False: 3})

    def test_far_beyond(self):
        self.check(of_params("num", "row", "text"), ROOM, [
            (10 ** 59, (), ""), (-10 ** 59, (), ""), (0, (0,) * 60, ""), (0, (), "a" * 60), (0, (10 ** 59,), ""), (0, (), " "), (0, (), "")])

    def test_spec_facts(self):
        """Facts by kind, over the params' paths alone (points 31 and 53)."""
        thing = of_params("num", "book", "row", "text")
        paths = model_of(thing, (0, (("", (0, 0), ()), ("", (0, 0), ())), (), ""))
        names = set()
        def is_form(form):
            self.assertIs(type(form), tuple)
            self.assertIs(type(form[0]), int)
            self.assertEqual(len(form), 2)
            self.assertIs(type(form[1]), tuple)
            for one, times in form[1]:
                name = one[1] if one[0] == "len" else one
                self.assertEqual(type(paths[name]) is tuple, one[0] == "len")
                self.assertNotEqual(times, 0)
                names.add(name)
            self.assertEqual([pair[0] for pair in form[1]], sorted({pair[0] for pair in form[1]}))
        for fact in room_facts(thing, "f", ROOM):
            self.assertIs(type(fact), tuple)
            if fact[0] == "least":
                self.assertEqual(len(fact), 2)
                is_form(fact[1])
            else:
                self.assertEqual((fact[0], len(fact)), ("each", 7))
                self.assertIs(type(paths[fact[1]]), tuple)
                for form in (fact[2], fact[3], fact[6]):
                    is_form(form)
                self.assertEqual((type(fact[4]), type(fact[5])), (int, int))
        self.assertEqual(names, set(paths))

    def test_no_params(self):
        self.check(of_params(), ROOM, [()])

    def test_told_anew(self):
        thing = of_params("num", "row")
        before = copy.deepcopy(thing)
        wanted = room_facts(thing, "f", ROOM)
        room_facts(thing, "f", ROOM).clear()
        self.assertEqual(room_facts(thing, "f", ROOM), wanted)
        self.assertEqual(thing, before)


if __name__ == "__main__":
    unittest.main()
