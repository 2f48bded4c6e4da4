"""The section lockdoors/errors.py of the interface."""

import unittest

from lockdoors import errors

SUBCLASSES = ['BadLocks', 'BadDoor', 'BadPerson', 'BadBuilding', 'BadName', 'BadTrail', 'BadDoubt', 'BadRoom',
              'NoWay', 'NothingPassed', 'BadText']


class ErrorTest(unittest.TestCase):
    def test_base(self):
        self.assertEqual(errors.LockError.__bases__, (ValueError,))
        self.assertEqual(errors.LockError.__module__, 'lockdoors.errors')

    def test_direct_subclasses(self):
        for name in SUBCLASSES:
            with self.subTest(name):
                found = getattr(errors, name)
                self.assertEqual(found.__bases__, (errors.LockError,))
                self.assertEqual(found.__name__, name)
                self.assertEqual(found.__module__, 'lockdoors.errors')

    def test_all_are_different(self):
        self.assertEqual(len({getattr(errors, name) for name in SUBCLASSES}), 11)

    def test_part(self):
        for part in ['ROOMS', 'KEYS', 'DOORS', 'PEOPLE', None]:
            with self.subTest(part):
                self.assertEqual(errors.BadBuilding(part).part, part)

    def test_row(self):
        for row in [0, 1, 12]:
            with self.subTest(row):
                self.assertEqual(errors.BadText(row).row, row)

    def test_caught_as_base(self):
        for error in [errors.BadBuilding('ROOMS'), errors.BadText(2), errors.BadLocks('why'), errors.NoWay('why')]:
            with self.assertRaises(errors.LockError):
                raise error
            with self.assertRaises(ValueError):
                raise error
