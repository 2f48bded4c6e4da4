"""Walks, point [11]."""

import inspect
import random
import unittest

from lockdoors.errors import BadBuilding, BadLocks, BadName, BadTrail, LockError, NothingPassed, NoWay
from lockdoors.locks import Locks
from lockdoors.plans import Building, Door, Person
from lockdoors.walks import Walk
from tests.samples import NOT_BUILDINGS, WRONG_LOCKS, WRONG_NAMES, WRONG_PEOPLE, WRONG_TRAILS, house
from tests.tries import keys_in, some_building, some_names, ways_of

ROOMS = ('a', 'b', 'c', 'd')


def plan(doors, keys=None, rooms=ROOMS, **people):
    return Building(rooms, keys or {}, doors, people)


def state(walk, keys=()):
    """All that can be seen of a walk."""
    return [walk.room, walk.passed, walk.visited, list(walk.ahead()), [key in walk for key in keys], len(walk),
            bool(walk)]


class Model:
    """A walk as [11] describes it, made anew from all doors passed so far."""

    def __init__(self, building, name, locked):
        self.building, self.person, self.locked, self.steps = building, building.person(name), locked, []

    def rooms(self):
        rooms = [self.person.start]
        for name in self.steps:
            rooms += [end for start, end in ways_of(self.building.door(name)) if start == rooms[-1]][:1]
        return rooms

    def ahead(self):
        keys = keys_in(self.building, self.person, self.rooms())
        found = []
        for name in self.building.doors:
            door = self.building.door(name)
            if name not in self.locked and (door.key is None or door.key in keys):
                if any(start == self.rooms()[-1] for start, end in ways_of(door)):
                    found.append(name)
        return found

    def state(self):
        keys = keys_in(self.building, self.person, self.rooms())
        return [self.rooms()[-1], self.steps, [room for room in self.building.rooms if room in self.rooms()],
                self.ahead(), [key in keys for key in self.building.key_rooms], len(self.steps),
                self.rooms()[-1] in self.person.needs]


class StepsTest(unittest.TestCase):
    def test_beginning(self):
        walk = Walk(house(), 'ann', Locks())
        self.assertEqual(state(walk, ['iron']), ['hall', [], ['hall'], ['front', 'stairs'], [False], 0, False])

    def test_each_step_and_back(self):
        walk = Walk(house(), 'ann', Locks())
        seen = [state(walk, ['iron'])]
        for door, room in [('stairs', 'attic'), ('stairs', 'hall'), ('front', 'den'), ('cellar', 'vault')]:
            self.assertEqual(walk.go(door), room)
            seen.append(state(walk, ['iron']))
        self.assertEqual(seen, [
            ['hall', [], ['hall'], ['front', 'stairs'], [False], 0, False],
            ['attic', ['stairs'], ['hall', 'attic'], ['stairs'], [True], 1, False],
            ['hall', ['stairs', 'stairs'], ['hall', 'attic'], ['front', 'stairs'], [True], 2, False],
            ['den', ['stairs', 'stairs', 'front'], ['hall', 'den', 'attic'], ['cellar'], [True], 3, False],
            ['vault', ['stairs', 'stairs', 'front', 'cellar'], ['hall', 'den', 'attic', 'vault'], [], [True], 4, False],
        ])
        for at, door in [(3, 'cellar'), (2, 'front'), (1, 'stairs'), (0, 'stairs')]:
            self.assertEqual(walk.back(), door)
            self.assertEqual(state(walk, ['iron']), seen[at])

    def test_doors_in_both_directions(self):
        building = plan({'x': Door('a', 'b', both=True), 'y': Door('c', 'b')}, p=Person('a'))
        walk = Walk(building, 'p', Locks())
        self.assertEqual([walk.go('x'), walk.go('x'), walk.go('x')], ['b', 'a', 'b'])
        self.assertEqual([walk.visited, list(walk.ahead()), len(walk)], [['a', 'b'], ['x'], 3])
        with self.assertRaises(NoWay):
            walk.go('y')

    def test_door_in_one_direction(self):
        walk = Walk(plan({'x': Door('a', 'b')}, p=Person('a')), 'p', Locks())
        walk.go('x')
        self.assertEqual(list(walk.ahead()), [])
        with self.assertRaises(NoWay):
            walk.go('x')

    def test_only_from_the_room_in_which_the_person_is(self):
        doors = {'x': Door('a', 'b'), 'y': Door('a', 'c')}
        walk = Walk(plan(doors, p=Person('a')), 'p', Locks())
        walk.go('x')
        # The door leads from a room that was visited, but the person is not there any more.
        with self.assertRaises(NoWay):
            walk.go('y')

    def test_locked_doors(self):
        walk = Walk(house(), 'ann', Locks('front'))
        self.assertEqual(list(walk.ahead()), ['stairs'])
        with self.assertRaises(NoWay):
            walk.go('front')

    def test_key_found_on_the_way_and_lost_again(self):
        doors = {'x': Door('a', 'b', key='k'), 'y': Door('a', 'c', both=True)}
        walk = Walk(plan(doors, keys={'k': 'c', 'l': 'd'}, p=Person('a')), 'p', Locks())
        self.assertEqual([list(walk.ahead()), 'k' in walk, 'l' in walk], [['y'], False, False])
        with self.assertRaises(NoWay):
            walk.go('x')
        walk.go('y')
        self.assertIs('k' in walk, True)
        walk.go('y')
        self.assertEqual([list(walk.ahead()), 'k' in walk, 'l' in walk], [['x', 'y'], True, False])
        walk.back()
        self.assertEqual([walk.room, 'k' in walk, walk.visited], ['c', True, ['a', 'c']])
        walk.back()
        self.assertEqual([list(walk.ahead()), 'k' in walk, walk.visited], [['y'], False, ['a']])
        with self.assertRaises(NoWay):
            walk.go('x')

    def test_key_of_a_room_visited_twice(self):
        doors = {'x': Door('a', 'b', both=True)}
        walk = Walk.along(plan(doors, keys={'k': 'b'}, p=Person('a')), 'p', Locks(), ('x', 'x', 'x'))
        walk.back()
        self.assertEqual(['k' in walk, walk.visited, walk.room], [True, ['a', 'b'], 'a'])
        walk.back()
        self.assertEqual(['k' in walk, walk.visited, walk.room], [True, ['a', 'b'], 'b'])
        walk.back()
        self.assertEqual(['k' in walk, walk.visited, walk.room], [False, ['a'], 'a'])

    def test_keys_from_the_beginning(self):
        doors = {'x': Door('a', 'b', key='k')}
        building = plan(doors, keys={'k': 'd', 'l': 'a'}, p=Person('a', carried=('k',)), q=Person('a'))
        walk = Walk(building, 'p', Locks())
        self.assertEqual(['k' in walk, 'l' in walk, walk.go('x'), 'k' in walk], [True, True, 'b', True])
        self.assertEqual(walk.back(), 'x')
        self.assertIs('k' in walk, True)
        other = Walk(building, 'q', Locks())
        self.assertEqual(['k' in other, 'l' in other, 'k' not in other], [False, True, True])

    def test_key_behind_its_own_door(self):
        walk = Walk(plan({'x': Door('a', 'b', key='k')}, keys={'k': 'b'}, p=Person('a')), 'p', Locks())
        with self.assertRaises(NoWay):
            walk.go('x')

    def test_truth(self):
        building = plan({'x': Door('a', 'b', both=True)}, p=Person('a', needs=('b',)), q=Person('a', needs=('a', 'c')),
                        r=Person('a', shuns=('a', 'b')))
        found = []
        for name in 'pqr':
            walk = Walk(building, name, Locks())
            found.append([bool(walk), walk.go('x'), bool(walk), walk.go('x'), bool(walk), walk.back(), bool(walk)])
        self.assertEqual(found, [[False, 'b', True, 'a', False, 'x', True], [True, 'b', False, 'a', True, 'x', False],
                                 [False, 'b', False, 'a', False, 'x', False]])

    def test_visited_in_the_order_of_the_building(self):
        doors = {'x': Door('a', 'b'), 'y': Door('b', 'c')}
        walk = Walk.along(plan(doors, rooms=('c', 'd', 'b', 'a'), p=Person('a')), 'p', Locks(), ('x', 'y'))
        self.assertEqual(walk.visited, ['c', 'b', 'a'])

    def test_two_walks_at_once(self):
        building = house()
        one, other = Walk(building, 'ann', Locks()), Walk(building, 'ann', Locks())
        one.go('stairs')
        self.assertEqual([one.room, other.room, 'iron' in other, len(other)], ['attic', 'hall', False, 0])
        self.assertEqual(building, house())

    def test_returned_lists_are_new(self):
        walk = Walk.along(house(), 'ann', Locks(), ('stairs',))
        walk.passed.append('front')
        walk.visited.clear()
        self.assertEqual([walk.passed, walk.visited, len(walk)], [['stairs'], ['hall', 'attic'], 1])
        self.assertEqual([type(walk.passed), type(walk.visited)], [list, list])

    def test_as_described(self):
        source = random.Random(61)
        refused = 0
        for turn in range(150):
            building = some_building(source)
            locked = some_names(source, building.doors, 2)
            name = source.choice(building.people)
            walk, model = Walk(building, name, Locks(*locked)), Model(building, name, locked)
            for step in range(25):
                door = source.choice(building.doors + model.ahead() * 3)
                if source.random() < 0.2:
                    if model.steps:
                        self.assertEqual(walk.back(), model.steps.pop())
                    else:
                        self.assertRaises(NothingPassed, walk.back)
                elif door in model.ahead():
                    model.steps.append(door)
                    self.assertEqual(walk.go(door), model.rooms()[-1])
                else:
                    refused += 1
                    self.assertRaises(NoWay, walk.go, door)
                self.assertEqual(state(walk, building.key_rooms), model.state())
            again = Walk.along(building, name, Locks(*locked), tuple(model.steps))
            self.assertEqual(state(again, building.key_rooms), model.state())
        self.assertGreater(refused, 100)


class AheadTest(unittest.TestCase):
    def setUp(self):
        doors = {'x': Door('a', 'b', both=True), 'y': Door('a', 'c'), 'z': Door('b', 'd'), 'w': Door('a', 'd', key='k')}
        self.walk = Walk(plan(doors, keys={'k': 'b'}, p=Person('a')), 'p', Locks())

    def test_generator(self):
        self.assertTrue(inspect.isgenerator(self.walk.ahead()))
        self.assertEqual(list(self.walk.ahead()), ['x', 'y'])

    def test_as_of_the_first_request(self):
        ahead = self.walk.ahead()
        self.walk.go('x')
        self.assertEqual(list(ahead), ['x', 'z'])
        ahead = self.walk.ahead()
        self.walk.go('x')
        self.assertEqual(next(ahead), 'x')
        self.walk.go('x')
        self.assertEqual(list(ahead), ['y', 'w'])

    def test_steps_in_between(self):
        seen = []
        for name in self.walk.ahead():
            seen.append((name, self.walk.go(name)))
            self.walk.back()
        self.assertEqual(seen, [('x', 'b'), ('y', 'c')])

    def test_several_at_once(self):
        one, other = self.walk.ahead(), self.walk.ahead()
        self.assertEqual([next(one), next(other), next(one), next(other)], ['x', 'x', 'y', 'y'])

    def test_order_of_the_building(self):
        doors = {name: Door('a', 'b') for name in 'zxy'}
        self.assertEqual(list(Walk(plan(doors, p=Person('a')), 'p', Locks()).ahead()), ['z', 'x', 'y'])


class AlongTest(unittest.TestCase):
    def test_no_doors(self):
        self.assertEqual(state(Walk.along(house(), 'bob', Locks(), ())), state(Walk(house(), 'bob', Locks())))

    def test_several_doors(self):
        walk = Walk.along(house(), 'bob', Locks(), ('stairs', 'front', 'cellar'))
        self.assertIsInstance(walk, Walk)
        self.assertEqual([walk.room, walk.passed], ['vault', ['stairs', 'front', 'cellar']])
        walk.back()
        self.assertIs(bool(walk), True)

    def test_parameters_by_name(self):
        walk = Walk.along(doors=('stairs',), locks=Locks('front'), name='bob', building=house())
        self.assertEqual([walk.room, list(walk.ahead())], ['hall', ['stairs']])
        self.assertEqual(Walk(locks=Locks(), name='bob', building=house()).room, 'attic')

    def test_no_way(self):
        for locks, doors in [(Locks(), ('cellar',)), (Locks(), ('front', 'cellar')), (Locks(), ('front', 'stairs')),
                             (Locks('front'), ('front',)), (Locks('stairs'), ('front', 'stairs')),
                             (Locks(), ('stairs', 'stairs', 'front', 'cellar', 'cellar'))]:
            with self.subTest(doors=doors), self.assertRaises(NoWay):
                Walk.along(house(), 'ann', locks, doors)


class RefusedTest(unittest.TestCase):
    def calls(self, *arguments):
        return [lambda: Walk(*arguments[:3]), lambda: Walk.along(*arguments)]

    def test_not_a_building(self):
        for wrong in NOT_BUILDINGS:
            for rest in [('ann', Locks(), ()), (None, None, None), ('eve', Locks('gate'), ('gate',))]:
                for call in self.calls(wrong, *rest):
                    with self.subTest(wrong=wrong), self.assertRaises(BadBuilding) as caught:
                        call()
                    self.assertIsNone(caught.exception.part)

    def test_not_a_person(self):
        for wrong in WRONG_PEOPLE:
            for rest in [(Locks(), ()), (None, None), (Locks('gate'), ('cellar',))]:
                for call in self.calls(house(), wrong, *rest):
                    with self.subTest(wrong=wrong), self.assertRaises(BadName):
                        call()

    def test_not_locks(self):
        for wrong in WRONG_LOCKS:
            for doors in [(), None, ('gate',), ('cellar',)]:
                for call in self.calls(house(), 'ann', wrong, doors):
                    with self.subTest(wrong=wrong), self.assertRaises(BadLocks):
                        call()

    def test_not_a_tuple_of_doors(self):
        for wrong in WRONG_TRAILS + [('cellar', 'gate'), ('cellar', ''), ('front', 'front', None)]:
            with self.subTest(wrong=wrong), self.assertRaises(BadTrail):
                Walk.along(house(), 'ann', Locks(), wrong)

    def test_go_to_no_door(self):
        walk = Walk.along(house(), 'ann', Locks('front'), ('stairs',))
        before = state(walk, ['iron'])
        for wrong in WRONG_NAMES + ['gate', 'hall', 'iron', 'ann', 'stair']:
            with self.subTest(wrong=wrong), self.assertRaises(BadName):
                walk.go(wrong)
            self.assertEqual(state(walk, ['iron']), before)

    def test_not_a_key(self):
        walk = Walk(house(), 'ann', Locks())
        for wrong in WRONG_NAMES + ['gold', 'hall', 'front', 'ann', 'iro']:
            with self.subTest(wrong=wrong):
                with self.assertRaises(BadName):
                    wrong in walk
                with self.assertRaises(BadName):
                    wrong not in walk

    def test_refused_calls_change_nothing(self):
        walk = Walk.along(house(), 'ann', Locks(), ('stairs', 'stairs', 'front'))
        before = state(walk, ['iron'])
        for call in [lambda: walk.go('front'), lambda: walk.go('stairs'), lambda: walk.go('gate'),
                     lambda: walk.go(None), lambda: 'gold' in walk]:
            with self.assertRaises(LockError):
                call()
            self.assertEqual(state(walk, ['iron']), before)

    def test_nothing_passed(self):
        walk = Walk(house(), 'bob', Locks())
        before = state(walk, ['iron'])
        for turn in range(3):
            with self.assertRaises(NothingPassed):
                walk.back()
            self.assertEqual(state(walk, ['iron']), before)
        walk.go('stairs')
        walk.back()
        with self.assertRaises(NothingPassed):
            walk.back()
        self.assertEqual(walk.go('stairs'), 'hall')

    def test_nothing_passed_in_a_room_that_the_person_needs(self):
        walk = Walk(plan({'x': Door('a', 'b')}, p=Person('a', needs=('a',))), 'p', Locks())
        self.assertIs(bool(walk), True)
        with self.assertRaises(NothingPassed):
            walk.back()
