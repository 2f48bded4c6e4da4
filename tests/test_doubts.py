"""Doubts, point [7]: is_doubt and rules_out."""

import itertools
import random
import unittest
from unittest.mock import ANY

from lockdoors.errors import BadBuilding, BadDoubt, BadLocks
from lockdoors.locks import Locks
from lockdoors.plans import Building, Door, Person
from lockdoors.reasons import is_doubt, rules_out
from tests.samples import NOT_BUILDINGS, WRONG_LOCKS, WRONG_PEOPLE, WRONG_TRAILS, house
from tests.tries import all_sets, all_trails, reach_table, right_sets, some_names, some_small_building, trail_rooms

ROOMS = ('a', 'b', 'c', 'd')
DOORS = {'x': Door('a', 'b'), 'y': Door('b', 'c', both=True), 'z': Door('a', 'd')}


def plan(keys=None, doors=None, **people):
    return Building(ROOMS, keys or {}, doors or DOORS, people)


def struck(building, doubt):
    """The sets that a doubt rules out, each as a string of names of one letter."""
    return [''.join(locked) for locked in all_sets(building) if rules_out(building, doubt, Locks(*locked))]


class ThroughTest(unittest.TestCase):
    def test_trail_to_a_shunned_room(self):
        building = plan(p=Person('a', shuns=('c',)))
        self.assertIs(is_doubt(building, ('through', 'p', ('x', 'y'))), True)
        self.assertIs(is_doubt(building, ('through', 'p', ('z', 'x', 'y'))), True)
        self.assertIs(is_doubt(building, ('through', 'p', ('x', 'y', 'z'))), True)

    def test_trail_to_other_rooms(self):
        building = plan(p=Person('a', shuns=('c',)), q=Person('a', needs=('c',)), r=Person('a'))
        for name, trail in [('p', ()), ('p', ('x',)), ('p', ('x', 'z')), ('q', ('x', 'y')), ('r', ('x', 'y'))]:
            self.assertIs(is_doubt(building, ('through', name, trail)), False)

    def test_no_trail(self):
        building = plan(p=Person('a', shuns=('c', 'b')))
        for trail in [('y',), ('y', 'x'), ('x', 'x'), ('x', 'y', 'y'), ('x', 'y', 'x')]:
            self.assertIs(is_doubt(building, ('through', 'p', trail)), False)

    def test_keys(self):
        doors = {'x': Door('a', 'b', key='k'), 'y': Door('a', 'c')}
        building = plan(keys={'k': 'c'}, doors=doors, p=Person('a', shuns=('b',)),
                        q=Person('a', carried=('k',), shuns=('b',)))
        self.assertIs(is_doubt(building, ('through', 'p', ('x',))), False)
        self.assertIs(is_doubt(building, ('through', 'p', ('y', 'x'))), True)
        self.assertIs(is_doubt(building, ('through', 'q', ('x',))), True)

    def test_shunned_start(self):
        building = plan(p=Person('c', shuns=('c',)))
        self.assertIs(is_doubt(building, ('through', 'p', ())), True)
        self.assertIs(is_doubt(building, ('through', 'p', ('y',))), True)
        self.assertEqual(len(struck(building, ('through', 'p', ()))), 8)
        self.assertEqual(struck(building, ('through', 'p', ('y',))), ['', 'x', 'z', 'xz'])

    def test_rules_out_sets_without_a_door_of_the_trail(self):
        building = plan(p=Person('a', shuns=('c',)))
        self.assertEqual(struck(building, ('through', 'p', ('x', 'y'))), ['', 'z'])
        self.assertEqual(struck(building, ('through', 'p', ('z', 'x', 'y'))), [''])

    def test_what_is_no_doubt_rules_out_nothing(self):
        building = plan(p=Person('a', shuns=('c',)))
        for trail in [(), ('x',), ('y',), ('y', 'x')]:
            self.assertEqual(struck(building, ('through', 'p', trail)), [])


class ShutTest(unittest.TestCase):
    def test_person_who_is_shut_out(self):
        building = plan(p=Person('a', needs=('c', 'd')))
        for doors in [('x',), ('y',), ('z',), ('x', 'y'), ('x', 'z'), ('y', 'z'), ('x', 'y', 'z')]:
            self.assertIs(is_doubt(building, ('shut', 'p', doors)), True)
        self.assertIs(is_doubt(building, ('shut', 'p', ())), False)

    def test_person_who_is_not_shut_out(self):
        building = plan(p=Person('a', needs=('b',)), q=Person('a'), r=Person('b', needs=('b',)))
        for name, doors in [('p', ('y',)), ('p', ('y', 'z')), ('q', ('x', 'y', 'z')), ('r', ('x', 'y', 'z'))]:
            self.assertIs(is_doubt(building, ('shut', name, doors)), False)

    def test_shunned_rooms_do_not_count(self):
        building = plan(p=Person('a', shuns=('c',)))
        self.assertIs(is_doubt(building, ('shut', 'p', ('x',))), False)

    def test_other_order_than_that_of_the_building(self):
        building = plan(p=Person('a', needs=('c', 'd')))
        for many in [2, 3]:
            for doors in itertools.permutations('xyz', many):
                self.assertIs(is_doubt(building, ('shut', 'p', doors)), list(doors) == sorted(doors))
        turned = plan(doors={name: DOORS[name] for name in 'zxy'}, p=Person('a', needs=('c', 'd')))
        self.assertIs(is_doubt(turned, ('shut', 'p', ('z', 'x', 'y'))), True)
        self.assertIs(is_doubt(turned, ('shut', 'p', ('z', 'y'))), True)
        self.assertIs(is_doubt(turned, ('shut', 'p', ('x', 'z'))), False)

    def test_name_twice(self):
        building = plan(p=Person('a', needs=('c', 'd')))
        for doors in [('x', 'x'), ('x', 'x', 'y'), ('x', 'y', 'y'), ('x', 'y', 'x')]:
            self.assertIs(is_doubt(building, ('shut', 'p', doors)), False)
            self.assertEqual(struck(building, ('shut', 'p', doors)), [])

    def test_always_shut_out(self):
        building = plan(p=Person('d', needs=('a',)))
        self.assertIs(is_doubt(building, ('shut', 'p', ())), True)
        self.assertEqual(len(struck(building, ('shut', 'p', ()))), 8)

    def test_way_around(self):
        doors = {'x': Door('a', 'b'), 'y': Door('a', 'b'), 'z': Door('a', 'd')}
        building = plan(doors=doors, p=Person('a', needs=('b',)))
        self.assertIs(is_doubt(building, ('shut', 'p', ('x',))), False)
        self.assertIs(is_doubt(building, ('shut', 'p', ('x', 'y'))), True)
        self.assertEqual(struck(building, ('shut', 'p', ('x', 'y'))), ['xy', 'xyz'])

    def test_locked_away_from_a_key(self):
        doors = {'x': Door('a', 'b', key='k'), 'y': Door('a', 'c')}
        building = plan(keys={'k': 'c'}, doors=doors, p=Person('a', needs=('b',)),
                        q=Person('a', carried=('k',), needs=('b',)))
        self.assertIs(is_doubt(building, ('shut', 'p', ('y',))), True)
        self.assertIs(is_doubt(building, ('shut', 'q', ('y',))), False)

    def test_rules_out_sets_with_all_these_doors(self):
        building = plan(p=Person('a', needs=('c',)))
        self.assertEqual(struck(building, ('shut', 'p', ('y',))), ['y', 'xy', 'yz', 'xyz'])
        self.assertEqual(struck(building, ('shut', 'p', ('x', 'y'))), ['xy', 'xyz'])
        self.assertEqual(struck(building, ('shut', 'p', ('z',))), [])


class AllSetsTest(unittest.TestCase):
    def test_as_defined(self):
        source = random.Random(31)
        seen = {('through', True): 0, ('through', False): 0, ('shut', True): 0, ('shut', False): 0}
        for turn in range(40):
            building = some_small_building(source, 4)
            table = reach_table(building)
            right = right_sets(building, table)
            for name in building.people:
                person = building.person(name)
                tuples = all_trails(building, name, ()) + all_sets(building)
                tuples += [some_names(source, building.doors, 4) for again in range(5)]
                for doors in set(tuples):
                    rooms = trail_rooms(building, name, (), doors)
                    through = rooms is not None and bool(set(rooms) & set(person.shuns))
                    shut = doors in all_sets(building) and not set(person.needs) <= set(table[name, doors])
                    for doubt, wanted in [(('through', name, doors), through), (('shut', name, doors), shut)]:
                        seen[doubt[0], wanted] += 1
                        self.assertIs(is_doubt(building, doubt), wanted)
                        for locked in all_sets(building):
                            meets = (not set(locked) & set(doors) if doubt[0] == 'through'
                                     else set(locked) >= set(doors))
                            found = rules_out(building, doubt, Locks(*locked))
                            self.assertIs(found, wanted and meets)
                            # A set that is ruled out is not right.
                            self.assertFalse(found and locked in right)
        self.assertGreater(min(seen.values()), 50)


WRONG_DOUBTS = [
    None, True, False, 0, 1, '', 'shut', 'through', [], {}, set(), b'', object(), tuple, Locks(), ANY, (), ('shut',),
    ('shut', 'bob'), ('shut', 'bob', (), ()), ('shut', 'bob', ('stairs',), None), ['shut', 'bob', ('stairs',)],
    {'shut': 'bob'}, ('bob', 'shut', ()), ((), 'bob', 'shut'), (('shut', 'bob', ()),), ('shut', ('bob',), ()),
]
WRONG_DOUBTS += [(wrong, 'bob', ('stairs',)) for wrong in [
    None, True, 0, 1, '', 'Shut', 'SHUT', 'shut ', 'shu', 'shuts', 'open', 'throug', 'throughs', b'shut', ['shut'],
    ('shut',), {'shut'}, {}, object(), ANY]]
for word in ['shut', 'through']:
    WRONG_DOUBTS += [(word, wrong, ('stairs',)) for wrong in WRONG_PEOPLE]
    WRONG_DOUBTS += [(word, 'bob', wrong) for wrong in WRONG_TRAILS]
    WRONG_DOUBTS += [[word, 'bob', ()], (word, None, None), (word, 'eve', ('gate',))]


class RefusedTest(unittest.TestCase):
    def test_not_a_building(self):
        for wrong in NOT_BUILDINGS:
            for doubt, locks in [(('shut', 'bob', ()), Locks()), (None, None), ('shut', Locks('gate'))]:
                with self.subTest(wrong=wrong), self.assertRaises(BadBuilding) as caught:
                    is_doubt(wrong, doubt)
                self.assertIsNone(caught.exception.part)
                with self.subTest(wrong=wrong), self.assertRaises(BadBuilding) as caught:
                    rules_out(wrong, doubt, locks)
                self.assertIsNone(caught.exception.part)

    def test_not_in_one_of_the_two_forms(self):
        for wrong in WRONG_DOUBTS:
            with self.subTest(wrong=wrong):
                with self.assertRaises(BadDoubt):
                    is_doubt(house(), wrong)
                for locks in [Locks(), Locks('stairs'), Locks('gate'), None, []]:
                    with self.assertRaises(BadDoubt):
                        rules_out(house(), wrong, locks)

    def test_not_locks(self):
        doubts = [('shut', 'bob', ('stairs',)), ('through', 'ann', ('front',)), ('shut', 'ann', ('front', 'front'))]
        for wrong in WRONG_LOCKS:
            for doubt in doubts:
                with self.subTest(wrong=wrong), self.assertRaises(BadLocks):
                    rules_out(house(), doubt, wrong)

    def test_tuples_that_are_no_doubts_are_no_errors(self):
        for doubt in [('shut', 'ann', ()), ('shut', 'bob', ('stairs', 'front')), ('through', 'bob', ('stairs',)),
                      ('through', 'ann', ('cellar', 'cellar')), ('shut', 'bob', ('front',) * 20)]:
            self.assertIs(is_doubt(house(), doubt), False)
            self.assertIs(rules_out(house(), doubt, Locks('front', 'cellar', 'stairs')), False)
