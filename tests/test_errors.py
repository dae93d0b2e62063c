import itertools
import unittest

from railshut import errors
from railshut.errors import BadJournal, BadLayout, BadPiece, BadRow, BadTrain, Collision, RailError

FIELDS = (
    (BadRow, "reason", "text"), (BadLayout, "place", 24), (BadPiece, "reason", "ends overlap"),
    (BadTrain, "reason", "no train"), (Collision, "pieces", (0, 3, 12)), (BadJournal, "place", 1),
)


class Errors(unittest.TestCase):
    def test_each_has_its_field_from_when_it_is_created(self):
        for error, field, worth in FIELDS:
            with self.subTest(error=error):
                self.assertEqual(getattr(error(worth), field), worth)
                self.assertEqual(getattr(error(**{field: worth}), field), worth)
                self.assertNotEqual(getattr(error(worth), field), getattr(error((worth, worth)), field))

    def test_fields_of_nought(self):
        self.assertEqual(BadLayout(0).place, 0)
        self.assertEqual(Collision(()).pieces, ())
        self.assertEqual(BadRow("").reason, "")

    def test_each_is_a_rail_error_and_a_value_error(self):
        for error, field, worth in FIELDS:
            with self.subTest(error=error):
                with self.assertRaises(RailError) as raised:
                    raise error(worth)
                self.assertIsInstance(raised.exception, ValueError)
                self.assertIs(raised.exception.__class__, error)
                self.assertEqual(getattr(raised.exception, field), worth)
        self.assertTrue(issubclass(RailError, ValueError))

    def test_none_but_rail_error_is_a_base_of_another(self):
        for (one, _, _), (other, _, _) in itertools.permutations(FIELDS, 2):
            self.assertFalse(issubclass(one, other), (one, other))
            self.assertFalse(issubclass(RailError, one))

    def test_there_are_just_these(self):
        told = {error.__name__ for error, _, _ in FIELDS} | {"RailError"}
        there = {name for name, worth in vars(errors).items() if isinstance(worth, type)}
        self.assertEqual(there, told)
        self.assertEqual({getattr(errors, name).__module__ for name in told}, {"railshut.errors"})
