"""Reaching, point [5], by Building.reach and Building.is_right."""

import itertools
import random
import unittest

from lockdoors.errors import BadLocks, BadName
from lockdoors.locks import Locks
from lockdoors.plans import Building, Door, Person
from tests.samples import NOT_LOCKS, WRONG_NAMES, house
from tests.tries import smallest_reach, some_building, some_names

ROOMS = ('a', 'b', 'c', 'd')


def reach(doors, person, locked=(), keys=None, rooms=ROOMS):
    building = Building(rooms, keys or {}, doors, {'p': person})
    return ''.join(building.reach('p', Locks(*locked)))


class ReachTest(unittest.TestCase):
    def test_start_alone(self):
        self.assertEqual(reach({'x': Door('b', 'c')}, Person('a')), 'a')
        self.assertEqual(reach({'x': Door('b', 'c')}, Person('c')), 'c')

    def test_one_direction(self):
        doors = {'x': Door('a', 'b'), 'y': Door('b', 'c')}
        self.assertEqual(reach(doors, Person('a')), 'abc')
        self.assertEqual(reach(doors, Person('b')), 'bc')
        self.assertEqual(reach(doors, Person('c')), 'c')

    def test_both_directions(self):
        doors = {'x': Door('a', 'b', both=True), 'y': Door('c', 'b', both=True)}
        for start in 'abc':
            self.assertEqual(reach(doors, Person(start)), 'abc')
        self.assertEqual(reach(doors, Person('d')), 'd')

    def test_order_of_the_doors_does_not_matter(self):
        doors = {'x': Door('a', 'b'), 'y': Door('b', 'c'), 'z': Door('c', 'd')}
        for order in itertools.permutations(doors):
            self.assertEqual(reach({name: doors[name] for name in order}, Person('a')), 'abcd')

    def test_order_of_the_building(self):
        doors = {'x': Door('a', 'b'), 'y': Door('b', 'c')}
        self.assertEqual(reach(doors, Person('a'), rooms=('c', 'd', 'a', 'b')), 'cab')
        self.assertEqual(reach(doors, Person('b'), rooms=('c', 'd', 'a', 'b')), 'cb')

    def test_each_room_once(self):
        doors = {'x': Door('a', 'b', both=True), 'y': Door('a', 'b', both=True), 'z': Door('b', 'a')}
        self.assertEqual(reach(doors, Person('a')), 'ab')

    def test_two_doors_into_one_room(self):
        doors = {'x': Door('a', 'b'), 'y': Door('a', 'c'), 'z': Door('b', 'd'), 'w': Door('c', 'd')}
        self.assertEqual(reach(doors, Person('a')), 'abcd')
        self.assertEqual(reach(doors, Person('a'), ('z',)), 'abcd')
        self.assertEqual(reach(doors, Person('a'), ('z', 'w')), 'abc')

    def test_round_tour(self):
        doors = {'x': Door('a', 'b'), 'y': Door('b', 'c'), 'z': Door('c', 'a')}
        for start in 'abc':
            self.assertEqual(reach(doors, Person(start)), 'abc')

    def test_locked_doors(self):
        doors = {'x': Door('a', 'b', both=True), 'y': Door('b', 'c'), 'z': Door('c', 'd')}
        self.assertEqual(reach(doors, Person('a'), ()), 'abcd')
        self.assertEqual(reach(doors, Person('a'), ('x',)), 'a')
        self.assertEqual(reach(doors, Person('a'), ('y',)), 'ab')
        self.assertEqual(reach(doors, Person('a'), ('z',)), 'abc')
        self.assertEqual(reach(doors, Person('b'), ('y', 'x')), 'b')
        self.assertEqual(reach(doors, Person('a'), ('x', 'y', 'z')), 'a')

    def test_door_that_needs_a_key(self):
        doors = {'x': Door('a', 'b', key='k')}
        self.assertEqual(reach(doors, Person('a'), keys={'k': 'd'}), 'a')
        self.assertEqual(reach(doors, Person('a'), keys={'k': 'b'}), 'a')
        self.assertEqual(reach(doors, Person('a'), keys={'k': 'a'}), 'ab')

    def test_door_in_both_directions_that_needs_a_key(self):
        doors = {'x': Door('a', 'b', key='k', both=True)}
        self.assertEqual(reach(doors, Person('b'), keys={'k': 'a'}), 'b')
        self.assertEqual(reach(doors, Person('b'), keys={'k': 'b'}), 'ab')
        self.assertEqual(reach(doors, Person('b', carried=('k',)), keys={'k': 'a'}), 'ab')

    def test_key_from_the_beginning(self):
        doors = {'x': Door('a', 'b', key='k'), 'y': Door('b', 'c', key='l')}
        keys = {'k': 'd', 'l': 'd'}
        self.assertEqual(reach(doors, Person('a', carried=('k',)), keys=keys), 'ab')
        self.assertEqual(reach(doors, Person('a', carried=('l',)), keys=keys), 'a')
        self.assertEqual(reach(doors, Person('a', carried=('l', 'k')), keys=keys), 'abc')

    def test_key_that_opens_a_door_passed_by_before(self):
        doors = {'x': Door('a', 'd', key='k'), 'y': Door('a', 'b', both=True), 'z': Door('b', 'c', both=True)}
        self.assertEqual(reach(doors, Person('a'), keys={'k': 'c'}), 'abcd')
        self.assertEqual(reach(doors, Person('a'), ('z',), keys={'k': 'c'}), 'ab')
        self.assertEqual(reach(doors, Person('a'), ('x',), keys={'k': 'c'}), 'abc')

    def test_key_behind_a_door_without_a_way_back(self):
        doors = {'x': Door('a', 'c', key='k'), 'y': Door('a', 'b')}
        self.assertEqual(reach(doors, Person('a'), keys={'k': 'b'}), 'abc')

    def test_keys_one_behind_another(self):
        rooms = ('a', 'b', 'c', 'd', 'e', 'f')
        doors = {'u': Door('a', 'f', key='m'), 'v': Door('a', 'e', key='l'), 'w': Door('a', 'd', key='k'),
                 'x': Door('a', 'b')}
        keys = {'k': 'b', 'l': 'd', 'm': 'e'}
        self.assertEqual(reach(doors, Person('a'), keys=keys, rooms=rooms), 'abdef')
        self.assertEqual(reach(doors, Person('a'), ('v',), keys=keys, rooms=rooms), 'abd')
        self.assertEqual(reach(doors, Person('a', carried=('m',)), ('x',), keys=keys, rooms=rooms), 'af')

    def test_key_stays_for_others(self):
        doors = {'x': Door('a', 'b', key='k'), 'y': Door('c', 'a')}
        building = Building(ROOMS, {'k': 'a'}, doors, {'p': Person('a'), 'q': Person('c'), 'r': Person('d')})
        for turn in range(2):
            self.assertEqual(building.reach('p', Locks()), ['a', 'b'])
            self.assertEqual(building.reach('q', Locks()), ['a', 'b', 'c'])
            self.assertEqual(building.reach('r', Locks()), ['d'])

    def test_keys_of_others_do_not_count(self):
        doors = {'x': Door('a', 'b', key='k')}
        building = Building(ROOMS, {'k': 'd'}, doors, {'p': Person('a', carried=('k',)), 'q': Person('a')})
        self.assertEqual([building.reach('p', Locks()), building.reach('q', Locks())], [['a', 'b'], ['a']])

    def test_shunned_rooms_stop_nobody(self):
        doors = {'x': Door('a', 'b'), 'y': Door('b', 'c')}
        self.assertEqual(reach(doors, Person('a', shuns=('b',))), 'abc')

    def test_as_defined(self):
        source = random.Random(5)
        for turn in range(150):
            building = some_building(source)
            for locked in [()] + [some_names(source, building.doors, 8) for again in range(4)]:
                for name in building.people:
                    with self.subTest(turn=turn, locked=locked, name=name):
                        self.assertEqual(building.reach(name, Locks(*locked)), smallest_reach(building, name, locked))

    def test_not_a_person(self):
        for wrong in WRONG_NAMES + ['eve', 'front', 'iron', 'an']:
            with self.subTest(wrong=wrong), self.assertRaises(BadName):
                house().reach(wrong, Locks())

    def test_not_locks(self):
        for wrong in NOT_LOCKS:
            with self.subTest(wrong=wrong), self.assertRaises(BadLocks):
                house().reach('ann', wrong)

    def test_locks_of_another_building(self):
        for locks in [Locks('gate'), Locks('front', 'gate'), Locks('zoo', 'stairs'), Locks('hall'), Locks('ann')]:
            with self.assertRaises(BadLocks):
                house().reach('ann', locks)

    def test_name_before_locks(self):
        for wrong in ['eve', '', None, [], True]:
            for locks in [None, 'front', Locks('gate'), []]:
                with self.assertRaises(BadName):
                    house().reach(wrong, locks)


class RightTest(unittest.TestCase):
    def right(self, *people, locked=()):
        doors = {'x': Door('a', 'b'), 'y': Door('b', 'c', key='k'), 'z': Door('a', 'd')}
        building = Building(ROOMS, {'k': 'd'}, doors, dict(zip('pqrs', people)))
        return building.is_right(Locks(*locked))

    def test_no_wishes(self):
        self.assertIs(self.right(Person('a')), True)
        self.assertIs(self.right(Person('a'), locked=('x', 'y', 'z')), True)

    def test_needs(self):
        self.assertIs(self.right(Person('a', needs=('b', 'c'))), True)
        self.assertIs(self.right(Person('a', needs=('b', 'c')), locked=('z',)), False)
        self.assertIs(self.right(Person('a', needs=('c', 'b')), locked=('z',)), False)
        self.assertIs(self.right(Person('a', needs=('b',)), locked=('z', 'y')), True)

    def test_shuns(self):
        self.assertIs(self.right(Person('a', shuns=('c',))), False)
        self.assertIs(self.right(Person('a', shuns=('c',)), locked=('z',)), True)
        self.assertIs(self.right(Person('a', shuns=('b', 'c')), locked=('z',)), False)
        self.assertIs(self.right(Person('a', shuns=('c', 'b')), locked=('z',)), False)
        self.assertIs(self.right(Person('a', shuns=('b', 'c')), locked=('x',)), True)

    def test_needs_and_shuns(self):
        person = Person('a', needs=('b',), shuns=('c',))
        self.assertIs(self.right(person), False)
        self.assertIs(self.right(person, locked=('y',)), True)
        self.assertIs(self.right(person, locked=('x',)), False)

    def test_start(self):
        for locked in [(), ('x', 'y', 'z')]:
            self.assertIs(self.right(Person('a', needs=('a',)), locked=locked), True)
            self.assertIs(self.right(Person('a', shuns=('a',)), locked=locked), False)

    def test_each_person_counts(self):
        fine, wrong = Person('a', needs=('b',)), Person('a', shuns=('d',))
        self.assertIs(self.right(fine, fine, fine), True)
        for people in [(wrong, fine, fine), (fine, wrong, fine), (fine, fine, wrong), (wrong,)]:
            self.assertIs(self.right(*people), False)
            self.assertIs(self.right(*people, locked=('z',)), True)

    def test_as_defined(self):
        source = random.Random(8)
        seen = {True: 0, False: 0}
        for turn in range(150):
            building = some_building(source)
            for locked in [()] + [some_names(source, building.doors, 8) for again in range(4)]:
                right = True
                for name in building.people:
                    rooms = set(smallest_reach(building, name, locked))
                    person = building.person(name)
                    right = right and rooms >= set(person.needs) and not rooms & set(person.shuns)
                seen[right] += 1
                self.assertIs(building.is_right(Locks(*locked)), right)
                self.assertEqual(building.price(Locks(*locked)), sum(building.door(name).cost for name in locked))
        self.assertGreater(min(seen.values()), 100)

    def test_not_locks(self):
        for wrong in NOT_LOCKS:
            with self.subTest(wrong=wrong), self.assertRaises(BadLocks):
                house().is_right(wrong)

    def test_locks_of_another_building(self):
        for locks in [Locks('gate'), Locks('front', 'gate'), Locks('zoo', 'stairs'), Locks('hall'), Locks('ann')]:
            with self.assertRaises(BadLocks):
                house().is_right(locks)
