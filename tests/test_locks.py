"""The section lockdoors/locks.py of the interface."""

import unittest

from lockdoors.errors import BadLocks
from lockdoors.locks import Locks
from tests.samples import LETTERS, NOT_LOCKS, RIGHT_NAMES, WRONG_NAMES


class LocksTest(unittest.TestCase):
    def test_example(self):
        locks = Locks('gate', 'back') | Locks('gate', 'attic')
        self.assertEqual(
            [locks.names, len(locks), 'back' in locks - Locks('back'), bool(locks & Locks('cellar')),
             locks.holds(Locks('attic'))],
            [['attic', 'back', 'gate'], 3, False, False, True])

    def test_empty(self):
        locks = Locks()
        self.assertEqual(locks.names, [])
        self.assertEqual(len(locks), 0)
        self.assertIs(bool(locks), False)
        self.assertIs('a' in locks, False)

    def test_any_order_and_more_than_once(self):
        locks = Locks('gate', 'back', 'gate', 'attic', 'back', 'gate')
        self.assertEqual(locks.names, ['attic', 'back', 'gate'])
        self.assertEqual(len(locks), 3)
        self.assertIs(bool(locks), True)

    def test_alphabetical(self):
        self.assertEqual(Locks(*reversed(LETTERS)).names, list(LETTERS))
        self.assertEqual(Locks('b', 'ab', 'abc', 'a', 'aa').names, ['a', 'aa', 'ab', 'abc', 'b'])

    def test_many_names(self):
        names = [one + other for one in LETTERS for other in 'ab']
        self.assertEqual(Locks(*names).names, names)
        self.assertEqual(len(Locks(*names)), 52)

    def test_equality(self):
        self.assertTrue(Locks('a', 'b') == Locks('b', 'a', 'b'))
        self.assertFalse(Locks('a', 'b') != Locks('b', 'a', 'b'))
        self.assertTrue(Locks() == Locks())
        for other in [Locks('a'), Locks('a', 'c'), Locks('a', 'b', 'c'), Locks(), Locks('ab')]:
            self.assertFalse(Locks('a', 'b') == other)
            self.assertFalse(other == Locks('a', 'b'))
            self.assertTrue(Locks('a', 'b') != other)

    def test_not_equal_to_other_values(self):
        for other in [['a'], ('a',), {'a'}, 'a', None, True, 1, {'a': True}]:
            with self.subTest(other=other):
                self.assertFalse(Locks('a') == other)
                self.assertTrue(Locks('a') != other)

    def test_union(self):
        self.assertEqual((Locks('b', 'a') | Locks('c', 'b')).names, ['a', 'b', 'c'])
        self.assertEqual((Locks('c') | Locks('a')).names, ['a', 'c'])
        self.assertEqual((Locks() | Locks('a')).names, ['a'])
        self.assertEqual((Locks('a') | Locks()).names, ['a'])
        self.assertEqual((Locks() | Locks()).names, [])
        self.assertIsInstance(Locks('a') | Locks('b'), Locks)

    def test_intersection(self):
        self.assertEqual((Locks('b', 'a', 'd') & Locks('c', 'd', 'b')).names, ['b', 'd'])
        self.assertEqual((Locks('a') & Locks('b')).names, [])
        self.assertEqual((Locks('a') & Locks()).names, [])
        self.assertEqual((Locks() & Locks('a')).names, [])
        self.assertIsInstance(Locks('a') & Locks('b'), Locks)

    def test_difference(self):
        self.assertEqual((Locks('b', 'a', 'd') - Locks('c', 'd')).names, ['a', 'b'])
        self.assertEqual((Locks('a') - Locks('b')).names, ['a'])
        self.assertEqual((Locks('a') - Locks()).names, ['a'])
        self.assertEqual((Locks() - Locks('a')).names, [])
        self.assertEqual((Locks('a') - Locks('a')).names, [])
        self.assertIsInstance(Locks('a') - Locks('b'), Locks)

    def test_operators_change_nothing(self):
        one = kept = Locks('a', 'b')
        other = Locks('b', 'c')
        self.assertEqual([len(one | other), len(one & other), len(one - other)], [3, 1, 1])
        self.assertEqual([one.names, other.names], [['a', 'b'], ['b', 'c']])
        one |= other
        one -= Locks('a')
        one &= Locks('a', 'b')
        self.assertEqual([one.names, kept.names], [['b'], ['a', 'b']])

    def test_in(self):
        locks = Locks('gate', 'back')
        self.assertIs('gate' in locks, True)
        self.assertIs('back' in locks, True)
        for name in ['attic', 'gat', 'ate', 'gates', 'g']:
            self.assertIs(name in locks, False)
            self.assertIs(name not in locks, True)

    def test_holds(self):
        locks = Locks('a', 'b', 'c')
        for other in [Locks(), Locks('a'), Locks('c', 'a'), Locks('a', 'b', 'c')]:
            self.assertIs(locks.holds(other), True)
        for other in [Locks('d'), Locks('a', 'd'), Locks('a', 'b', 'c', 'd')]:
            self.assertIs(locks.holds(other), False)
        self.assertIs(Locks().holds(Locks()), True)
        self.assertIs(Locks().holds(Locks('a')), False)

    def test_names_are_new(self):
        locks = Locks('a', 'b')
        locks.names.append('c')
        names = locks.names
        names.clear()
        self.assertIsInstance(names, list)
        self.assertEqual(locks.names, ['a', 'b'])
        self.assertEqual(len(locks), 2)

    def test_right_names(self):
        for name in RIGHT_NAMES:
            self.assertEqual(Locks(name).names, [name])

    def test_wrong_names(self):
        for wrong in WRONG_NAMES:
            with self.subTest(wrong=wrong):
                for names in [(wrong,), ('a', wrong), (wrong, 'a'), (wrong, wrong), ('a', wrong, 'b')]:
                    with self.assertRaises(BadLocks):
                        Locks(*names)

    def test_other_one_is_not_a_locks(self):
        for locks in [Locks(), Locks('front')]:
            for other in NOT_LOCKS:
                with self.subTest(other=other):
                    with self.assertRaises(BadLocks):
                        locks | other
                    with self.assertRaises(BadLocks):
                        locks & other
                    with self.assertRaises(BadLocks):
                        locks - other
                    with self.assertRaises(BadLocks):
                        locks.holds(other)
