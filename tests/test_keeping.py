"""Keeping out, point [9], and changes, point [10]."""

import random
import unittest

from lockdoors.errors import BadBuilding, BadLocks, BadName, BadRoom
from lockdoors.keeping import KeepOut, changes, keep_out
from lockdoors.locks import Locks
from lockdoors.plans import Building, Door, Person
from tests.samples import NOT_BUILDINGS, WRONG_LOCKS, WRONG_NAMES, WRONG_PEOPLE, house
from tests.tries import (all_sets, all_trails, cost_of, first_cheapest, largest_building, reach_table, some_building,
                         some_names, some_small_building, trail_rooms)

ROOMS = ('a', 'b', 'c', 'd')


def plan(doors, keys=None, **people):
    return Building(ROOMS, keys or {}, doors, people)


def is_shown(building, name, room, locked, trails, table):
    """The definition of [9], word for word, except that the set need not be the first one."""
    price = cost_of(building, locked)
    keeping = [other for other in all_sets(building) if room not in table[name, other]]
    added = [trail_rooms(building, name, (), trail) for trail in trails]
    meeting = [other for other in all_sets(building) if all(set(other) & set(trail) for trail in trails)]
    return (locked in keeping and price == min(cost_of(building, other) for other in keeping)
            and all(rooms is not None and room in rooms for rooms in added)
            and all(cost_of(building, other) >= price for other in meeting))


class KeepOutTest(unittest.TestCase):
    def check(self, building, table, name, room):
        found = keep_out(building, name, room)
        best = first_cheapest(building, [locked for locked in all_sets(building) if room not in table[name, locked]])
        self.assertIsInstance(found, KeepOut)
        self.assertEqual(found.locks, Locks(*best))
        self.assertIsInstance(found.trails, list)
        for trail in found.trails:
            self.assertIsInstance(trail, tuple)
        self.assertIs(is_shown(building, name, room, best, found.trails, table), True)
        self.assertIs(found.shows(building, name, room), True)

    def check_all(self, building):
        table = reach_table(building)
        for name in building.people:
            for room in building.rooms:
                if room != building.person(name).start:
                    self.check(building, table, name, room)

    def test_house(self):
        self.assertEqual(keep_out(house(), 'ann', 'vault').locks, Locks('front'))
        self.assertEqual(keep_out(house(), 'ann', 'attic').locks, Locks('stairs'))
        self.assertEqual(keep_out(house(), 'bob', 'hall').locks, Locks('stairs'))
        self.check_all(house())

    def test_never_reached(self):
        building = plan({'x': Door('a', 'b'), 'y': Door('c', 'a')}, p=Person('a'))
        for room in 'cd':
            self.assertEqual(keep_out(building, 'p', room), KeepOut(Locks(), []))
        self.check_all(building)

    def test_wishes_do_not_count(self):
        building = plan({'x': Door('a', 'b'), 'y': Door('b', 'c', cost=2)}, p=Person('a', needs=('b', 'c')))
        self.assertEqual(keep_out(building, 'p', 'c').locks, Locks('x'))
        self.check_all(building)

    def test_ties(self):
        doors = {'x': Door('a', 'b'), 'y': Door('b', 'c'), 'z': Door('c', 'd')}
        for order in ['xyz', 'yzx', 'zxy', 'zyx', 'xzy', 'yxz']:
            building = plan({name: doors[name] for name in order}, p=Person('a'))
            self.assertEqual(keep_out(building, 'p', 'd').locks, Locks(order[0]))
            self.check_all(building)

    def test_ties_of_one_and_two_doors(self):
        doors = {'x': Door('a', 'b'), 'y': Door('a', 'b', cost=2), 'z': Door('b', 'c', cost=3)}
        for order, wanted in [('xyz', ['x', 'y']), ('zxy', ['z']), ('xzy', ['x', 'y']), ('yzx', ['x', 'y'])]:
            building = plan({name: doors[name] for name in order}, p=Person('a'))
            self.assertEqual(keep_out(building, 'p', 'c').locks.names, wanted)

    def test_cheap_doors_against_a_dear_one(self):
        doors = {'x': Door('b', 'c', cost=9), 'w': Door('a', 'b', cost=3), 'y': Door('a', 'b', cost=5)}
        self.assertEqual(keep_out(plan(doors, p=Person('a')), 'p', 'c').locks, Locks('w', 'y'))
        self.check_all(plan(doors, p=Person('a')))

    def test_keys(self):
        doors = {'x': Door('a', 'b', key='k', cost=4), 'y': Door('a', 'c', cost=2)}
        building = plan(doors, keys={'k': 'c'}, p=Person('a'), q=Person('a', carried=('k',)))
        self.assertEqual(keep_out(building, 'p', 'b').locks, Locks('y'))
        self.assertEqual(keep_out(building, 'q', 'b').locks, Locks('x'))
        self.check_all(building)

    def test_all_sets_tried(self):
        source = random.Random(51)
        for turn in range(60):
            self.check_all(some_small_building(source))
        for turn in range(6):
            self.check_all(some_building(source))

    def test_sizes_at_their_bounds(self):
        source = random.Random(52)
        for turn in range(2):
            self.check_all(largest_building(source))

    def test_new_each_time(self):
        building = house()
        one, other = keep_out(building, 'ann', 'vault'), keep_out(building, 'ann', 'vault')
        self.assertEqual(one, other)
        one.trails.clear()
        self.assertEqual(keep_out(building, 'ann', 'vault'), other)
        self.assertEqual(building, house())


class ShowsTest(unittest.TestCase):
    def setUp(self):
        doors = {'w': Door('a', 'b'), 'x': Door('b', 'd', cost=2), 'y': Door('a', 'c'), 'z': Door('c', 'd')}
        self.building = plan(doors, p=Person('a'))
        self.trails = [('w', 'x'), ('y', 'z')]

    def shows(self, names, trails):
        return KeepOut(Locks(*names), trails).shows(self.building, 'p', 'd')

    def test_correct(self):
        self.assertIs(self.shows('wy', self.trails), True)

    def test_set_need_not_be_the_first_one(self):
        self.assertEqual(keep_out(self.building, 'p', 'd').locks, Locks('w', 'y'))
        self.assertIs(self.shows('wz', self.trails), True)

    def test_further_doors_and_trails(self):
        self.assertIs(self.shows('wy', self.trails[::-1] + [('y', 'w', 'x')]), True)
        self.assertIs(self.shows('wy', [('w', 'x'), ('y', 'z', 'w')]), False)

    def test_set_that_does_not_keep_out(self):
        for names in ['', 'w', 'x', 'wx', 'yz']:
            self.assertIs(self.shows(names, self.trails), False)
            self.assertIs(self.shows(names, []), False)

    def test_set_that_is_not_the_cheapest(self):
        for names in ['xy', 'xz', 'wxy', 'wxyz']:
            self.assertIs(self.shows(names, self.trails), False)

    def test_too_few_trails(self):
        for trails in [[], self.trails[:1], self.trails[1:], [('w', 'x'), ('w', 'x')]]:
            self.assertIs(self.shows('wy', trails), False)

    def test_each_one_is_a_trail_that_adds_the_room(self):
        for wrong in [(), ('w',), ('x',), ('x', 'w'), ('w', 'y'), ('w', 'x', 'z'), ('w', 'x', 'x')]:
            for trails in [[wrong] + self.trails, self.trails + [wrong]]:
                self.assertIs(self.shows('wy', trails), False)

    def test_never_reached(self):
        building = plan({'x': Door('a', 'b')}, p=Person('a'))
        self.assertIs(KeepOut(Locks(), []).shows(building, 'p', 'c'), True)
        self.assertIs(KeepOut(Locks('x'), []).shows(building, 'p', 'c'), False)
        self.assertIs(KeepOut(Locks(), [('x',)]).shows(building, 'p', 'c'), False)
        self.assertIs(KeepOut(Locks(), [()]).shows(building, 'p', 'c'), False)

    def test_attributes_set_anew(self):
        found = KeepOut(Locks(), [])
        found.locks = Locks('w', 'y')
        self.assertIs(found.shows(self.building, 'p', 'd'), False)
        found.trails = list(self.trails)
        self.assertIs(found.shows(self.building, 'p', 'd'), True)
        found.trails.pop()
        self.assertIs(found.shows(self.building, 'p', 'd'), False)

    def test_answers_compared_with_the_definition(self):
        source = random.Random(53)
        seen = {True: 0, False: 0}
        for turn in range(60):
            building = some_small_building(source, 4)
            table = reach_table(building)
            for name in building.people:
                room = source.choice([room for room in building.rooms if room != building.person(name).start])
                correct = keep_out(building, name, room)
                for again in range(6):
                    best = tuple(door for door in building.doors if door in correct.locks)
                    locked = source.choice(all_sets(building) + [best] * 30)
                    trails = [trail for trail in correct.trails if source.random() < 0.9]
                    if source.random() < 0.4:
                        others = all_trails(building, name, ()) + [some_names(source, building.doors, 3)]
                        trails.append(source.choice(others))
                    wanted = is_shown(building, name, room, locked, trails, table)
                    seen[wanted] += 1
                    self.assertIs(KeepOut(Locks(*locked), trails).shows(building, name, room), wanted)
        self.assertGreater(min(seen.values()), 50)


class ValuesTest(unittest.TestCase):
    def test_attributes(self):
        found = KeepOut(Locks('x'), [('x', 'y')])
        self.assertEqual([found.locks, found.trails], [Locks('x'), [('x', 'y')]])
        self.assertEqual(KeepOut(trails=[('x', 'y')], locks=Locks('x')), found)

    def test_copied(self):
        trails = [('x',)]
        found = KeepOut(Locks('x'), trails)
        trails.append(('y',))
        self.assertEqual(found.trails, [('x',)])
        found.trails.clear()
        self.assertEqual(trails, [('x',), ('y',)])

    def test_equal(self):
        one = KeepOut(Locks('x'), [('x',), ('y',)])
        self.assertTrue(one == KeepOut(Locks('x'), [('x',), ('y',)]))
        self.assertFalse(one != KeepOut(Locks('x'), [('x',), ('y',)]))
        for other in [KeepOut(Locks(), [('x',), ('y',)]), KeepOut(Locks('x'), [('y',), ('x',)]),
                      KeepOut(Locks('x'), []), None, True, Locks('x'), (Locks('x'), [('x',), ('y',)])]:
            self.assertFalse(one == other)
            self.assertTrue(one != other)


class LikeVault:
    """A value that is equal to a room, but is not a name."""

    def __eq__(self, other):
        return other == 'vault'


class RefusedTest(unittest.TestCase):
    def calls(self, *arguments):
        return [lambda: keep_out(*arguments), lambda: KeepOut(Locks('front'), []).shows(*arguments)]

    def test_not_a_building(self):
        for wrong in NOT_BUILDINGS:
            for rest in [('ann', 'vault'), (None, None), ('eve', 'shed'), ('ann', 'hall')]:
                for call in self.calls(wrong, *rest):
                    with self.subTest(wrong=wrong), self.assertRaises(BadBuilding) as caught:
                        call()
                    self.assertIsNone(caught.exception.part)

    def test_not_a_person(self):
        for wrong in WRONG_PEOPLE:
            for room in ['vault', 'hall', 'shed', None, []]:
                for call in self.calls(house(), wrong, room):
                    with self.subTest(wrong=wrong), self.assertRaises(BadName):
                        call()

    def test_not_a_room(self):
        for wrong in WRONG_NAMES + ['shed', 'front', 'iron', 'ann', 'hal', LikeVault()]:
            for call in self.calls(house(), 'ann', wrong):
                with self.subTest(wrong=wrong), self.assertRaises(BadRoom):
                    call()

    def test_room_in_which_the_person_starts(self):
        for name, start, other in [('ann', 'hall', 'attic'), ('bob', 'attic', 'hall')]:
            for call in self.calls(house(), name, start):
                with self.assertRaises(BadRoom):
                    call()
            for call in self.calls(house(), name, other):
                call()


class ChangesTest(unittest.TestCase):
    def test_house(self):
        self.assertEqual(changes(house(), Locks(), Locks('stairs')),
                         [('ann', 'attic', 'lost'), ('ann', 'vault', 'lost'), ('bob', 'hall', 'lost'),
                          ('bob', 'den', 'lost'), ('bob', 'vault', 'lost')])
        self.assertEqual(changes(house(), Locks('stairs', 'front'), Locks('front')),
                         [('ann', 'attic', 'gained'), ('bob', 'hall', 'gained')])

    def test_both_words(self):
        self.assertEqual(changes(house(), Locks('stairs'), Locks('front')),
                         [('ann', 'den', 'lost'), ('ann', 'attic', 'gained'), ('bob', 'hall', 'gained')])

    def test_none(self):
        for locks in [Locks(), Locks('front'), Locks('front', 'stairs')]:
            self.assertEqual(changes(house(), locks, locks), [])
        self.assertEqual(changes(house(), Locks('front'), Locks('front', 'cellar')), [])

    def test_orders_of_the_building(self):
        doors = {'x': Door('a', 'c'), 'y': Door('a', 'b'), 'z': Door('a', 'd')}
        building = Building(('d', 'b', 'a', 'c'), {}, doors, {'q': Person('a'), 'p': Person('a')})
        self.assertEqual(changes(building, Locks('x', 'y'), Locks('z')),
                         [(name, room, word) for name in 'qp'
                          for room, word in [('d', 'lost'), ('b', 'gained'), ('c', 'gained')]])

    def test_kinds(self):
        found = changes(house(), Locks(), Locks('stairs'))
        self.assertIsInstance(found, list)
        for change in found:
            self.assertIsInstance(change, tuple)
        found.clear()
        self.assertEqual(len(changes(house(), Locks(), Locks('stairs'))), 5)

    def test_as_defined(self):
        source = random.Random(54)
        for turn in range(40):
            building = some_building(source) if turn % 10 == 0 else some_small_building(source)
            table = reach_table(building)
            for again in range(10):
                old, new = source.choice(all_sets(building)), source.choice(all_sets(building))
                wanted = []
                for name in building.people:
                    for room in building.rooms:
                        if room in table[name, new] and room not in table[name, old]:
                            wanted.append((name, room, 'gained'))
                        if room in table[name, old] and room not in table[name, new]:
                            wanted.append((name, room, 'lost'))
                self.assertEqual(changes(building, Locks(*old), Locks(*new)), wanted)

    def test_not_a_building(self):
        for wrong in NOT_BUILDINGS:
            for locks in [Locks(), None, Locks('gate')]:
                with self.subTest(wrong=wrong), self.assertRaises(BadBuilding) as caught:
                    changes(wrong, locks, locks)
                self.assertIsNone(caught.exception.part)

    def test_not_locks(self):
        for wrong in WRONG_LOCKS:
            for old, new in [(wrong, Locks()), (Locks(), wrong), (wrong, wrong)]:
                with self.subTest(wrong=wrong), self.assertRaises(BadLocks):
                    changes(house(), old, new)
