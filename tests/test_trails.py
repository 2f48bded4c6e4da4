"""Trails, point [6]: is_trail, is_complete and trail_of."""

import itertools
import random
import unittest

from lockdoors.errors import BadBuilding, BadLocks, BadName, BadTrail
from lockdoors.locks import Locks
from lockdoors.plans import Building, Door, Person
from lockdoors.reasons import is_complete, is_trail, trail_of
from tests.samples import NOT_BUILDINGS, WRONG_LOCKS, WRONG_PEOPLE, WRONG_TRAILS, house
from tests.tries import all_trails, smallest_reach, some_building, some_names, trail_rooms

ROOMS = ('a', 'b', 'c', 'd')


def told(doors, person, trail, locked=(), keys=None):
    """Whether it is a trail, and whether it is a complete one."""
    building = Building(ROOMS, keys or {}, doors, {'p': person})
    trail = tuple(trail)
    return [is_trail(building, 'p', Locks(*locked), trail), is_complete(building, 'p', Locks(*locked), trail)]


def first_trail(doors, person, locked=(), keys=None):
    building = Building(ROOMS, keys or {}, doors, {'p': person})
    return ''.join(trail_of(building, 'p', Locks(*locked)))


NO = [False, False]
YES = [True, False]
WHOLE = [True, True]


class TrailTest(unittest.TestCase):
    def test_empty(self):
        self.assertEqual(told({'x': Door('a', 'b')}, Person('a'), ''), YES)
        self.assertEqual(told({'x': Door('a', 'b')}, Person('b'), ''), WHOLE)
        self.assertEqual(told({'x': Door('a', 'b')}, Person('a'), '', ('x',)), WHOLE)
        self.assertEqual(told({'x': Door('a', 'b', key='k')}, Person('a'), '', keys={'k': 'c'}), WHOLE)

    def test_one_direction(self):
        doors = {'x': Door('a', 'b'), 'y': Door('b', 'c')}
        self.assertEqual(told(doors, Person('a'), 'x'), YES)
        self.assertEqual(told(doors, Person('a'), 'xy'), WHOLE)
        self.assertEqual(told(doors, Person('a'), 'y'), NO)
        self.assertEqual(told(doors, Person('a'), 'yx'), NO)
        self.assertEqual(told(doors, Person('b'), 'x'), NO)
        self.assertEqual(told(doors, Person('b'), 'y'), WHOLE)
        self.assertEqual(told(doors, Person('c'), 'y'), NO)

    def test_both_directions(self):
        doors = {'x': Door('a', 'b', both=True), 'y': Door('c', 'b', both=True)}
        self.assertEqual(told(doors, Person('b'), 'xy'), WHOLE)
        self.assertEqual(told(doors, Person('b'), 'yx'), WHOLE)
        self.assertEqual(told(doors, Person('c'), 'yx'), WHOLE)
        self.assertEqual(told(doors, Person('c'), 'y'), YES)
        self.assertEqual(told(doors, Person('c'), 'xy'), NO)

    def test_room_that_is_there_already(self):
        doors = {'x': Door('a', 'b', both=True), 'y': Door('a', 'b'), 'z': Door('b', 'a')}
        self.assertEqual(told(doors, Person('a'), 'x'), WHOLE)
        for trail in ['xx', 'xy', 'yx', 'yz', 'z', 'xz', 'yy']:
            self.assertEqual(told(doors, Person('a'), trail), NO)
        self.assertEqual(told(doors, Person('b'), 'z'), WHOLE)
        self.assertEqual(told(doors, Person('b'), 'x'), WHOLE)
        self.assertEqual(told(doors, Person('b'), 'zx'), NO)

    def test_from_any_room_of_the_trail(self):
        doors = {'x': Door('a', 'b'), 'y': Door('a', 'c'), 'z': Door('b', 'd')}
        for trail in ['xyz', 'xzy', 'yxz']:
            self.assertEqual(told(doors, Person('a'), trail), WHOLE)
        for trail in ['yz', 'zxy', 'yzx', 'yxzx']:
            self.assertEqual(told(doors, Person('a'), trail), NO)

    def test_locked(self):
        doors = {'x': Door('a', 'b'), 'y': Door('b', 'c'), 'z': Door('a', 'd')}
        self.assertEqual(told(doors, Person('a'), 'xz', ('y',)), WHOLE)
        self.assertEqual(told(doors, Person('a'), 'xy', ('y',)), NO)
        self.assertEqual(told(doors, Person('a'), 'xyz', ('z',)), NO)
        self.assertEqual(told(doors, Person('a'), 'xy', ('z',)), WHOLE)
        self.assertEqual(told(doors, Person('a'), 'x', ('z',)), YES)
        self.assertEqual(told(doors, Person('a'), 'xyz', ('x',)), NO)

    def test_key_from_the_beginning(self):
        doors = {'x': Door('a', 'b', key='k'), 'y': Door('b', 'c', key='l')}
        keys = {'k': 'd', 'l': 'd'}
        self.assertEqual(told(doors, Person('a', carried=('k',)), 'x', keys=keys), WHOLE)
        self.assertEqual(told(doors, Person('a', carried=('l', 'k')), 'x', keys=keys), YES)
        self.assertEqual(told(doors, Person('a', carried=('l', 'k')), 'xy', keys=keys), WHOLE)
        self.assertEqual(told(doors, Person('a', carried=('l',)), 'x', keys=keys), NO)
        self.assertEqual(told(doors, Person('a'), 'x', keys=keys), NO)

    def test_key_in_a_room_of_the_trail_so_far(self):
        doors = {'x': Door('a', 'b', key='k'), 'y': Door('a', 'c')}
        self.assertEqual(told(doors, Person('a'), 'yx', keys={'k': 'c'}), WHOLE)
        self.assertEqual(told(doors, Person('a'), 'y', keys={'k': 'c'}), YES)
        self.assertEqual(told(doors, Person('a'), 'xy', keys={'k': 'c'}), NO)
        self.assertEqual(told(doors, Person('a'), 'xy', keys={'k': 'a'}), WHOLE)
        self.assertEqual(told(doors, Person('a'), 'x', keys={'k': 'a'}), YES)

    def test_key_that_the_person_does_not_have_yet(self):
        doors = {'x': Door('a', 'b', key='k')}
        self.assertEqual(told(doors, Person('a'), 'x', keys={'k': 'b'}), NO)
        self.assertEqual(told(doors, Person('a'), '', keys={'k': 'b'}), WHOLE)

    def test_key_for_both_directions(self):
        doors = {'x': Door('a', 'b', key='k', both=True)}
        self.assertEqual(told(doors, Person('b'), 'x', keys={'k': 'a'}), NO)
        self.assertEqual(told(doors, Person('b'), 'x', keys={'k': 'b'}), WHOLE)

    def test_shunned_rooms_stop_nobody(self):
        doors = {'x': Door('a', 'b'), 'y': Door('b', 'c')}
        self.assertEqual(told(doors, Person('a', shuns=('b', 'a')), 'xy'), WHOLE)

    def test_each_person_for_themselves(self):
        building = Building(ROOMS, {'k': 'd'}, {'x': Door('a', 'b', key='k'), 'y': Door('c', 'b')},
                            {'p': Person('a', carried=('k',)), 'q': Person('a'), 'r': Person('c')})
        found = [[is_trail(building, name, Locks(), trail) for trail in [('x',), ('y',), ()]] for name in 'pqr']
        self.assertEqual(found, [[True, False, True], [False, False, True], [False, True, True]])

    def test_as_defined(self):
        source = random.Random(21)
        seen = {'no': 0, 'yes': 0, 'whole': 0}
        for turn in range(60):
            building = some_building(source)
            for locked in [(), some_names(source, building.doors, 3)]:
                name = source.choice(building.people)
                trails = [trail for many in range(3) for trail in itertools.product(building.doors, repeat=many)]
                trails += all_trails(building, name, locked)[:100]
                for trail in trails:
                    rooms = trail_rooms(building, name, locked, trail)
                    whole = rooms is not None and sorted(rooms) == sorted(smallest_reach(building, name, locked))
                    seen['no' if rooms is None else 'whole' if whole else 'yes'] += 1
                    self.assertIs(is_trail(building, name, Locks(*locked), trail), rooms is not None)
                    self.assertIs(is_complete(building, name, Locks(*locked), trail), whole)
        self.assertGreater(min(seen.values()), 100)


class TrailOfTest(unittest.TestCase):
    def test_empty(self):
        self.assertEqual(trail_of(house(), 'ann', Locks('front', 'stairs')), ())
        self.assertIsInstance(trail_of(house(), 'ann', Locks('front', 'stairs')), tuple)

    def test_first_door_that_can_follow(self):
        doors = {'x': Door('a', 'b'), 'y': Door('a', 'c'), 'z': Door('a', 'd')}
        for order in itertools.permutations(doors):
            self.assertEqual(first_trail({name: doors[name] for name in order}, Person('a')), ''.join(order))

    def test_from_the_first_one_each_time_anew(self):
        doors = {'w': Door('c', 'd'), 'x': Door('b', 'c'), 'y': Door('a', 'd'), 'z': Door('a', 'b')}
        self.assertEqual(first_trail(doors, Person('a')), 'yzx')
        self.assertEqual(first_trail(doors, Person('a'), ('y',)), 'zxw')
        doors = {'x': Door('b', 'c'), 'y': Door('a', 'b'), 'z': Door('a', 'd')}
        self.assertEqual(first_trail(doors, Person('a')), 'yxz')

    def test_key_found_on_the_way(self):
        doors = {'x': Door('a', 'd', key='k'), 'y': Door('a', 'b'), 'z': Door('b', 'c')}
        self.assertEqual(first_trail(doors, Person('a'), keys={'k': 'b'}), 'yxz')
        self.assertEqual(first_trail(doors, Person('a'), keys={'k': 'c'}), 'yzx')
        self.assertEqual(first_trail(doors, Person('a'), keys={'k': 'd'}), 'yz')
        self.assertEqual(first_trail(doors, Person('a', carried=('k',)), keys={'k': 'd'}), 'xyz')

    def test_first_of_two_doors_into_one_room(self):
        doors = {'x': Door('a', 'b', both=True), 'y': Door('a', 'b'), 'z': Door('b', 'a')}
        self.assertEqual(first_trail(doors, Person('a')), 'x')
        self.assertEqual(first_trail(doors, Person('a'), ('x',)), 'y')
        self.assertEqual(first_trail(doors, Person('b'), ('x',)), 'z')

    def test_as_defined(self):
        source = random.Random(22)
        for turn in range(200):
            building = some_building(source)
            locked = some_names(source, building.doors, 3)
            for name in building.people:
                wanted = ()
                while True:
                    further = [door for door in building.doors
                               if trail_rooms(building, name, locked, wanted + (door,)) is not None]
                    if not further:
                        break
                    wanted += (further[0],)
                found = trail_of(building, name, Locks(*locked))
                self.assertEqual(found, wanted)
                self.assertIsInstance(found, tuple)
                self.assertIs(is_complete(building, name, Locks(*locked), found), True)


class RefusedTest(unittest.TestCase):
    def calls(self, *arguments):
        """What the three functions do with these arguments; trail_of takes one less."""
        return [lambda: is_trail(*arguments), lambda: is_complete(*arguments), lambda: trail_of(*arguments[:3])]

    def test_not_a_building(self):
        for wrong in NOT_BUILDINGS:
            for rest in [('ann', Locks(), ()), (None, None, None), ('eve', Locks('gate'), ['gate'])]:
                for call in self.calls(wrong, *rest):
                    with self.subTest(wrong=wrong), self.assertRaises(BadBuilding) as caught:
                        call()
                    self.assertIsNone(caught.exception.part)

    def test_not_a_person(self):
        for wrong in WRONG_PEOPLE:
            for rest in [(Locks(), ()), (None, None), (Locks('gate'), ['gate'])]:
                for call in self.calls(house(), wrong, *rest):
                    with self.subTest(wrong=wrong), self.assertRaises(BadName):
                        call()

    def test_not_locks(self):
        for wrong in WRONG_LOCKS:
            for rest in [(), None, ['gate'], ('gate',)]:
                for call in self.calls(house(), 'ann', wrong, rest):
                    with self.subTest(wrong=wrong), self.assertRaises(BadLocks):
                        call()

    def test_not_a_tuple_of_doors(self):
        for wrong in WRONG_TRAILS:
            for call in self.calls(house(), 'ann', Locks(), wrong)[:2]:
                with self.subTest(wrong=wrong), self.assertRaises(BadTrail):
                    call()

    def test_wrong_name_behind_doors_that_do_not_follow(self):
        for wrong in [('cellar', 'gate'), ('front', 'front', ''), ('front', 'front', None)]:
            for call in self.calls(house(), 'ann', Locks('front'), wrong)[:2]:
                with self.subTest(wrong=wrong), self.assertRaises(BadTrail):
                    call()

    def test_tuples_that_are_no_trails_are_no_errors(self):
        for trail in [('front', 'front'), ('cellar',), ('stairs', 'front', 'cellar', 'front') * 5]:
            self.assertIs(is_trail(house(), 'ann', Locks(), trail), False)
            self.assertIs(is_complete(house(), 'ann', Locks(), trail), False)
