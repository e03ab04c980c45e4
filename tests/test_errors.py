"""The refusals: where they stand, and their fields."""

import copy
import pickle
import unittest

from everyfork.errors import ForkError, NoEnd, NoNever, NoProgram, NoRow, NoText

REFUSALS = (NoText, NoProgram, NoEnd, NoNever, NoRow)


class Errors(unittest.TestCase):
    def test_base(self):
        self.assertEqual(ForkError.__bases__, (ValueError,))

    def test_each_straight_under_the_base(self):
        for refusal in REFUSALS:
            self.assertEqual(refusal.__bases__, (ForkError,))

    def test_none_under_another(self):
        for one in REFUSALS:
            for other in REFUSALS:
                self.assertEqual(issubclass(one, other), one is other)

    def test_fields(self):
        self.assertEqual(NoText(7).row, 7)
        self.assertEqual((NoProgram(2, -1).function, NoProgram(2, -1).line), (2, -1))
        self.assertEqual(NoEnd((1, "a", ())).given, (1, "a", ()))
        self.assertEqual(NoNever((1, (2,))).given, (1, (2,)))
        self.assertEqual(NoNever(()).given, ())
        self.assertEqual(str(NoRow("no such row")), "no such row")

    def test_fields_are_each_objects_own(self):
        one, other = NoText(1), NoText(2)
        self.assertEqual((one.row, other.row), (1, 2))

    def test_taken_as_a_value_error(self):
        for made in (NoText(0), NoProgram(-1, -1), NoEnd(()), NoNever(()), NoRow("")):
            with self.assertRaises(ValueError):
                raise made

    def test_copies_keep_their_fields(self):
        made = NoProgram(3, 4)
        for other in (copy.copy(made), pickle.loads(pickle.dumps(made))):
            self.assertEqual((other.function, other.line), (3, 4))


if __name__ == "__main__":
    unittest.main()
