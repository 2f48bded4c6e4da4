"""Each name of the interface stands in its own file, and each method in its own class."""

import ast
import inspect
import pathlib
import unittest

from lockdoors import keeping, locks, plans, reasons, walks

PACKAGE = pathlib.Path(__file__).resolve().parent.parent / 'lockdoors'

FILES = {
    'errors': ['LockError', 'BadLocks', 'BadDoor', 'BadPerson', 'BadBuilding', 'BadName', 'BadTrail', 'BadDoubt',
               'BadRoom', 'NoWay', 'NothingPassed', 'BadText'],
    'locks': ['Locks'],
    'plans': ['Door', 'Person', 'Building'],
    'reasons': ['is_trail', 'is_complete', 'trail_of', 'is_doubt', 'rules_out', 'cheapest', 'Locking', 'NoLocking'],
    'keeping': ['keep_out', 'KeepOut', 'changes'],
    'walks': ['Walk'],
    'texts': ['building_text', 'read_building'],
}
METHODS = {
    locks.Locks: ['__init__', '__eq__', '__or__', '__and__', '__sub__', '__contains__', '__len__', 'holds'],
    plans.Door: ['__init__', '__eq__', 'ways'],
    plans.Person: ['__init__', '__eq__'],
    plans.Building: ['__init__', '__eq__', 'door', 'person', 'reach', 'price', 'is_right'],
    reasons.Locking: ['__init__', '__eq__', 'shows'],
    reasons.NoLocking: ['__init__', '__eq__', 'shows'],
    keeping.KeepOut: ['__init__', '__eq__', 'shows'],
    walks.Walk: ['__init__', '__contains__', '__len__', '__bool__', 'go', 'back', 'ahead'],
}
PROPERTIES = {
    locks.Locks: ['names'],
    plans.Door: ['start', 'end', 'key', 'both', 'cost'],
    plans.Person: ['start', 'carried', 'needs', 'shuns'],
    plans.Building: ['rooms', 'key_rooms', 'doors', 'people'],
    walks.Walk: ['room', 'passed', 'visited'],
}
PARAMETERS = {
    reasons.is_trail: ['building', 'name', 'locks', 'trail'],
    reasons.is_complete: ['building', 'name', 'locks', 'trail'],
    reasons.trail_of: ['building', 'name', 'locks'],
    reasons.is_doubt: ['building', 'doubt'],
    reasons.rules_out: ['building', 'doubt', 'locks'],
    reasons.cheapest: ['building'],
    reasons.Locking: ['locks', 'trails', 'doubts'],
    reasons.NoLocking: ['doubts'],
    reasons.Locking.shows: ['self', 'building'],
    reasons.NoLocking.shows: ['self', 'building'],
    keeping.keep_out: ['building', 'name', 'room'],
    keeping.KeepOut: ['locks', 'trails'],
    keeping.KeepOut.shows: ['self', 'building', 'name', 'room'],
    keeping.changes: ['building', 'old', 'new'],
    walks.Walk: ['building', 'name', 'locks'],
    walks.Walk.go: ['self', 'name'],
    walks.Walk.along: ['building', 'name', 'locks', 'doors'],
}


class InterfaceTest(unittest.TestCase):
    def test_files(self):
        for file, names in FILES.items():
            tree = ast.parse((PACKAGE / (file + '.py')).read_text())
            defined = [node.name for node in tree.body if isinstance(node, (ast.FunctionDef, ast.ClassDef))]
            for name in names:
                with self.subTest(file=file, name=name):
                    self.assertEqual(defined.count(name), 1)

    def test_methods(self):
        for owner, names in METHODS.items():
            for name in names:
                with self.subTest(owner=owner, name=name):
                    self.assertTrue(callable(vars(owner)[name]))

    def test_class_method(self):
        self.assertIsInstance(vars(walks.Walk)['along'], classmethod)

    def test_properties(self):
        for owner, names in PROPERTIES.items():
            for name in names:
                with self.subTest(owner=owner, name=name):
                    self.assertIsInstance(vars(owner)[name], property)

    def test_parameters(self):
        for called, names in PARAMETERS.items():
            with self.subTest(called=called):
                self.assertEqual(list(inspect.signature(called).parameters), names)
