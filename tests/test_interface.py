"""Each name of the interface stands in its own file, and each method in its own class."""

import unittest

from lockdoors import errors, locks, plans

METHODS = {
    locks.Locks: ['__init__', '__eq__', '__or__', '__and__', '__sub__', '__contains__', '__len__', 'holds'],
    plans.Door: ['__init__', '__eq__', 'ways'],
    plans.Person: ['__init__', '__eq__'],
    plans.Building: ['__init__', '__eq__', 'door', 'person', 'reach', 'price', 'is_right'],
}
PROPERTIES = {
    locks.Locks: ['names'],
    plans.Door: ['start', 'end', 'key', 'both', 'cost'],
    plans.Person: ['start', 'carried', 'needs', 'shuns'],
    plans.Building: ['rooms', 'key_rooms', 'doors', 'people'],
}


class InterfaceTest(unittest.TestCase):
    def test_files(self):
        self.assertEqual(errors.LockError.__module__, 'lockdoors.errors')
        self.assertEqual(locks.Locks.__module__, 'lockdoors.locks')
        for found in [plans.Door, plans.Person, plans.Building]:
            self.assertEqual(found.__module__, 'lockdoors.plans')

    def test_methods(self):
        for owner, names in METHODS.items():
            for name in names:
                with self.subTest(owner=owner, name=name):
                    self.assertTrue(callable(vars(owner)[name]))

    def test_properties(self):
        for owner, names in PROPERTIES.items():
            for name in names:
                with self.subTest(owner=owner, name=name):
                    self.assertIsInstance(vars(owner)[name], property)
