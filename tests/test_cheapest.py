"""Cheapest sets, point [8]: cheapest, Locking and NoLocking."""

import random
import unittest

from lockdoors.errors import BadBuilding
from lockdoors.locks import Locks
from lockdoors.plans import Building, Door, Person
from lockdoors.reasons import Locking, NoLocking, cheapest, is_complete, is_doubt, rules_out
from tests.samples import NOT_BUILDINGS, house
from tests.tries import (all_sets, all_trails, cost_of, first_cheapest, largest_building, reach_table, right_sets,
                         some_building, some_small_building, trail_rooms)

ROOMS = ('a', 'b', 'c', 'd')


def plan(doors, rooms=ROOMS, keys=None, **people):
    return Building(rooms, keys or {}, doors, people)


def names(building):
    """The doors of the cheapest set, as a string, or None if there is no right set."""
    found = cheapest(building)
    return None if isinstance(found, NoLocking) else ''.join(found.locks.names)


def no_right_set():
    return plan({'x': Door('a', 'b'), 'y': Door('b', 'c')}, p=Person('a', needs=('c',), shuns=('b',)))


class CheapestTest(unittest.TestCase):
    def check(self, building):
        """Compare the answer with all sets tried; return whether there is a right set."""
        table = reach_table(building)
        best = first_cheapest(building, right_sets(building, table))
        found = cheapest(building)
        self.assertIs(found.shows(building), True)
        self.assertIsInstance(found.doubts, list)
        for doubt in found.doubts:
            self.assertIsInstance(doubt, tuple)
            self.assertIsInstance(doubt[2], tuple)
            self.assertTrue(is_doubt(building, doubt))
        if best is None:
            self.assertIsInstance(found, NoLocking)
        else:
            self.assertIsInstance(found, Locking)
            self.assertEqual(found.locks, Locks(*best))
            self.assertEqual(list(found.trails), building.people)
            for name, trail in found.trails.items():
                self.assertIsInstance(trail, tuple)
                self.assertTrue(is_complete(building, name, found.locks, trail))
                self.assertEqual(sorted(trail_rooms(building, name, best, trail)), sorted(table[name, best]))
        for locked in all_sets(building):
            if best is None or cost_of(building, locked) < cost_of(building, best):
                self.assertTrue(any(rules_out(building, doubt, Locks(*locked)) for doubt in found.doubts))
        return best is not None

    def test_house(self):
        found = cheapest(house())
        self.assertEqual(found.locks, Locks('cellar'))
        self.assertEqual(list(found.trails), ['ann', 'bob'])
        self.assertTrue(self.check(house()))

    def test_nothing_to_lock(self):
        building = plan({'x': Door('a', 'b')}, p=Person('a', needs=('b',)), q=Person('b', shuns=('a',)))
        found = cheapest(building)
        self.assertEqual(found, Locking(Locks(), {'p': ('x',), 'q': ()}, []))
        self.assertTrue(self.check(building))

    def test_people_in_order(self):
        building = plan({'x': Door('a', 'b')}, s=Person('a'), p=Person('b'), r=Person('a'), q=Person('c'))
        self.assertEqual(list(cheapest(building).trails.items()), [('s', ('x',)), ('p', ()), ('r', ('x',)), ('q', ())])

    def test_cheap_doors_against_a_dear_one(self):
        for cost, wanted in [(1, 'z'), (2, 'z'), (3, 'xy'), (9, 'xy')]:
            building = plan({'z': Door('b', 'c', cost=cost), 'x': Door('a', 'b'), 'y': Door('a', 'b')},
                            p=Person('a', shuns=('c',)))
            # At the same cost z is the first one, since its index is 0.
            self.assertEqual(names(building), wanted)
            self.assertTrue(self.check(building))
        building = plan({'x': Door('a', 'b'), 'y': Door('a', 'b'), 'z': Door('b', 'c', cost=2)},
                        p=Person('a', shuns=('c',)))
        self.assertEqual(names(building), 'xy')
        self.assertTrue(self.check(building))

    def test_ties(self):
        doors = {'x': Door('a', 'b'), 'y': Door('b', 'c'), 'z': Door('c', 'd')}
        for order in ['xyz', 'yzx', 'zxy', 'zyx', 'xzy', 'yxz']:
            building = plan({name: doors[name] for name in order}, p=Person('a', shuns=('d',)))
            self.assertEqual(names(building), order[0])
            self.assertTrue(self.check(building))

    def test_ties_by_indices_not_by_numbers_of_doors(self):
        doors = {'w': Door('a', 'b'), 'x': Door('b', 'c', cost=3), 'y': Door('a', 'b', cost=2), 'z': Door('c', 'd')}
        building = plan(doors, p=Person('a', shuns=('c',)))
        self.assertEqual(names(building), 'wy')
        building = plan({name: doors[name] for name in 'xwyz'}, p=Person('a', shuns=('c',)))
        self.assertEqual(names(building), 'x')

    def test_ties_by_later_indices(self):
        doors = {'x': Door('a', 'b'), 'y': Door('b', 'd'), 'z': Door('a', 'c'), 'w': Door('c', 'd')}
        self.assertEqual(names(plan(doors, p=Person('a', shuns=('d',)))), 'xz')
        self.assertEqual(names(plan(doors, p=Person('a', shuns=('d',), needs=('b',)))), 'yz')
        self.assertEqual(names(plan(doors, p=Person('a', shuns=('d',), needs=('c',)))), 'wx')

    def test_needs_forbid_the_cheap_door(self):
        doors = {'x': Door('a', 'b'), 'y': Door('b', 'c', cost=9)}
        building = plan(doors, p=Person('a', shuns=('c',)), q=Person('a', needs=('b',)))
        self.assertEqual(names(building), 'y')
        self.assertTrue(self.check(building))

    def test_lock_the_way_to_a_key(self):
        doors = {'x': Door('a', 'b', key='k', cost=5), 'y': Door('a', 'c')}
        building = plan(doors, keys={'k': 'c'}, p=Person('a', shuns=('b',)))
        self.assertEqual(names(building), 'y')
        building = plan(doors, keys={'k': 'c'}, p=Person('a', shuns=('b',)),
                        q=Person('a', carried=('k',), shuns=('b',)))
        self.assertEqual(names(building), 'x')
        self.assertTrue(self.check(building))

    def test_no_right_set(self):
        for building in [no_right_set(), plan({'x': Door('a', 'b')}, p=Person('a', shuns=('a',))),
                         plan({'x': Door('a', 'b')}, p=Person('b', needs=('a',))),
                         plan({'x': Door('a', 'b')}, p=Person('a', needs=('b',)), q=Person('a', shuns=('b',)))]:
            self.assertIsInstance(cheapest(building), NoLocking)
            self.assertFalse(self.check(building))

    def test_start_needed(self):
        building = plan({'x': Door('a', 'b')}, p=Person('a', needs=('a',)), q=Person('a', shuns=('b',)))
        self.assertEqual(names(building), 'x')

    def test_all_sets_tried(self):
        source = random.Random(41)
        seen = {True: 0, False: 0}
        for turn in range(120):
            seen[self.check(some_small_building(source))] += 1
        for turn in range(12):
            seen[self.check(some_building(source))] += 1
        self.assertGreater(min(seen.values()), 10)

    def test_sizes_at_their_bounds(self):
        source = random.Random(42)
        seen = {True: 0, False: 0}
        for turn in range(6):
            building = largest_building(source)
            self.assertEqual([len(building.rooms), len(building.doors), len(building.people), len(building.key_rooms)],
                             [6, 8, 4, 3])
            seen[self.check(building)] += 1
        self.assertGreater(seen[True], 1)

    def test_all_doors_locked_at_the_highest_cost(self):
        doors = {name: Door('a', 'b', cost=9) for name in 'stuvwxyz'}
        building = plan(doors, p=Person('a', shuns=('b',)))
        self.assertEqual(names(building), 'stuvwxyz')
        self.assertTrue(self.check(building))

    def test_smallest_building(self):
        building = plan({'x': Door('a', 'b')}, rooms=('a', 'b'), p=Person('a', shuns=('b',)))
        self.assertEqual(names(building), 'x')
        self.assertTrue(self.check(building))

    def test_new_each_time(self):
        building = house()
        one, other = cheapest(building), cheapest(building)
        self.assertEqual(one, other)
        one.trails.clear()
        one.doubts.clear()
        self.assertEqual(cheapest(building), other)
        self.assertEqual(building, house())

    def test_not_a_building(self):
        for wrong in NOT_BUILDINGS:
            for call in [lambda: cheapest(wrong), lambda: Locking(Locks(), {'ann': (), 'bob': ()}, []).shows(wrong),
                         lambda: NoLocking([]).shows(wrong)]:
                with self.subTest(wrong=wrong), self.assertRaises(BadBuilding) as caught:
                    call()
                self.assertIsNone(caught.exception.part)


class ShowsTest(unittest.TestCase):
    """The house: cellar costs 3 and is right; the other two doors cost 1 each."""

    def setUp(self):
        self.house = house()
        self.trails = {'ann': ('front', 'stairs'), 'bob': ('stairs', 'front')}
        self.doubts = [('through', 'ann', ('stairs', 'front', 'cellar')), ('shut', 'bob', ('front',)),
                       ('shut', 'bob', ('stairs',))]

    def shows(self, locks, trails, doubts):
        return Locking(locks, trails, doubts).shows(self.house)

    def test_correct(self):
        self.assertIs(self.shows(Locks('cellar'), self.trails, self.doubts), True)

    def test_people_in_any_order(self):
        turned = dict(reversed(self.trails.items()))
        self.assertIs(self.shows(Locks('cellar'), turned, self.doubts), True)

    def test_doubts_in_any_order_and_more_than_needed(self):
        more = self.doubts + [('shut', 'bob', ('front', 'stairs')), ('shut', 'bob', ('front',))]
        self.assertIs(self.shows(Locks('cellar'), self.trails, more[::-1]), True)

    def test_set_that_is_not_right(self):
        self.assertIs(self.shows(Locks(), {'ann': ('front', 'stairs', 'cellar'), 'bob': ('stairs', 'front', 'cellar')},
                                 []), False)
        self.assertIs(self.shows(Locks('front'), {'ann': ('stairs',), 'bob': ('stairs',)}, self.doubts), False)

    def test_set_that_is_not_the_cheapest(self):
        building = plan({'x': Door('a', 'b'), 'y': Door('b', 'c', cost=2)}, p=Person('a', shuns=('c',)))
        doubts = [('through', 'p', ('x', 'y'))]
        self.assertIs(Locking(Locks('x'), {'p': ()}, doubts).shows(building), True)
        self.assertIs(Locking(Locks('y'), {'p': ('x',)}, doubts).shows(building), False)
        self.assertIs(Locking(Locks('x', 'y'), {'p': ()}, doubts).shows(building), False)
        # No doubt rules out the right set that costs less, whatever is claimed.
        claimed = doubts + [('shut', 'p', ('x',))]
        self.assertIs(Locking(Locks('y'), {'p': ('x',)}, claimed).shows(building), False)

    def test_set_need_not_be_the_first_one(self):
        building = plan({'x': Door('a', 'b'), 'y': Door('b', 'c')}, p=Person('a', shuns=('c',)))
        doubts = [('through', 'p', ('x', 'y'))]
        self.assertEqual(cheapest(building).locks, Locks('x'))
        self.assertIs(Locking(Locks('x'), {'p': ()}, doubts).shows(building), True)
        self.assertIs(Locking(Locks('y'), {'p': ('x',)}, doubts).shows(building), True)

    def test_trails(self):
        for wrong in [(), ('front',), ('stairs',), ('front', 'stairs', 'cellar'), ('front', 'front'), ('cellar',)]:
            self.assertIs(self.shows(Locks('cellar'), {**self.trails, 'ann': wrong}, self.doubts), False)
        for wrong in [(), ('front',), ('stairs',), ('front', 'stairs'), ('stairs', 'front', 'cellar')]:
            self.assertIs(self.shows(Locks('cellar'), {**self.trails, 'bob': wrong}, self.doubts), False)
        self.assertIs(self.shows(Locks('cellar'), {**self.trails, 'ann': ('stairs', 'front')}, self.doubts), True)

    def test_each_doubt_is_needed(self):
        for at in range(3):
            fewer = self.doubts[:at] + self.doubts[at + 1:]
            self.assertIs(self.shows(Locks('cellar'), self.trails, fewer), False)
        self.assertIs(self.shows(Locks('cellar'), self.trails, []), False)

    def test_each_doubt_is_one(self):
        for wrong in [('shut', 'ann', ('front',)), ('shut', 'bob', ('cellar',)), ('through', 'ann', ('front',)),
                      ('shut', 'bob', ('stairs', 'front')), ('shut', 'bob', ('front', 'front')),
                      ('through', 'bob', ('stairs', 'front', 'cellar')), ('shut', 'bob', ())]:
            for doubts in [[wrong] + self.doubts, self.doubts + [wrong]]:
                self.assertIs(self.shows(Locks('cellar'), self.trails, doubts), False)

    def test_attributes_set_anew(self):
        found = Locking(Locks('cellar'), self.trails, self.doubts)
        found.locks = Locks('front')
        self.assertIs(found.shows(self.house), False)
        found.locks = Locks('cellar')
        self.assertIs(found.shows(self.house), True)
        found.trails = {'ann': (), 'bob': ('stairs', 'front')}
        self.assertIs(found.shows(self.house), False)
        found.trails['ann'] = ('stairs', 'front')
        self.assertIs(found.shows(self.house), True)
        kept = found.doubts.pop()
        self.assertIs(found.shows(self.house), False)
        found.doubts.append(kept)
        self.assertIs(found.shows(self.house), True)
        found.doubts = []
        self.assertIs(found.shows(self.house), False)

    def test_none_shown(self):
        building = no_right_set()
        doubts = [('through', 'p', ('x',)), ('shut', 'p', ('x',))]
        self.assertIs(NoLocking(doubts).shows(building), True)
        self.assertIs(NoLocking(doubts[::-1]).shows(building), True)
        for wrong in [[], doubts[:1], doubts[1:], doubts + [('shut', 'p', ())], doubts + [('through', 'p', ('y',))],
                      [('through', 'p', ('x', 'y')), ('shut', 'p', ('x',))]]:
            self.assertIs(NoLocking(wrong).shows(building), False)
        found = NoLocking([])
        found.doubts = doubts
        self.assertIs(found.shows(building), True)
        found.doubts.pop()
        self.assertIs(found.shows(building), False)

    def test_none_where_there_is_a_right_set(self):
        self.assertIs(NoLocking(self.doubts).shows(self.house), False)
        self.assertIs(NoLocking(self.doubts + [('shut', 'bob', ('front', 'stairs'))]).shows(self.house), False)

    def test_answers_compared_with_all_sets_tried(self):
        """Change correct answers at random, and see whether shows agrees with the definition."""
        source = random.Random(43)
        seen = {True: 0, False: 0}
        for turn in range(60):
            building = some_small_building(source, 4)
            table = reach_table(building)
            right = right_sets(building, table)
            least = min([cost_of(building, locked) for locked in right], default=None)
            doubts = cheapest(building).doubts
            for again in range(8):
                best = [locked for locked in right if cost_of(building, locked) == least]
                locked = source.choice(best * 20 + right + all_sets(building))
                trails = {name: source.choice((all_trails(building, name, locked)[-1:] * 8
                                               + all_trails(building, name, locked))[:12]) for name in building.people}
                some = [doubt for doubt in doubts if source.random() < 0.9]
                if source.random() < 0.2:
                    some.append(('shut', building.people[0], source.choice(all_sets(building))))
                fine = all(is_doubt(building, doubt) for doubt in some)
                price = cost_of(building, locked)
                cheaper = [other for other in all_sets(building) if cost_of(building, other) < price]
                ruled = [any(rules_out(building, doubt, Locks(*other)) for doubt in some) for other in cheaper]
                rooms = {name: trail_rooms(building, name, locked, trails[name]) for name in trails}
                whole = all(sorted(rooms[name]) == sorted(table[name, locked]) for name in rooms)
                wanted = locked in right and price == least and fine and all(ruled) and whole
                seen[wanted] += 1
                self.assertIs(Locking(Locks(*locked), trails, some).shows(building), wanted)
        self.assertGreater(min(seen.values()), 50)


class ValuesTest(unittest.TestCase):
    def test_attributes(self):
        found = Locking(Locks('x'), {'p': ('y',)}, [('shut', 'p', ())])
        self.assertEqual([found.locks, found.trails, found.doubts], [Locks('x'), {'p': ('y',)}, [('shut', 'p', ())]])
        self.assertEqual(NoLocking([('shut', 'p', ())]).doubts, [('shut', 'p', ())])

    def test_parameters_by_name(self):
        found = Locking(doubts=[], locks=Locks('x'), trails={'p': ()})
        self.assertEqual(found, Locking(Locks('x'), {'p': ()}, []))
        self.assertEqual(NoLocking(doubts=[]), NoLocking([]))

    def test_copied(self):
        trails, doubts = {'p': ('y',)}, [('shut', 'p', ())]
        found, none = Locking(Locks('x'), trails, doubts), NoLocking(doubts)
        trails['q'] = ()
        doubts.clear()
        self.assertEqual([found.trails, found.doubts, none.doubts],
                         [{'p': ('y',)}, [('shut', 'p', ())], [('shut', 'p', ())]])
        found.trails.clear()
        found.doubts.append(1)
        none.doubts.append(2)
        self.assertEqual([trails, doubts], [{'p': ('y',), 'q': ()}, []])

    def test_equal(self):
        one = Locking(Locks('x'), {'p': ('y',), 'q': ()}, [('shut', 'p', ())])
        self.assertTrue(one == Locking(Locks('x', 'x'), {'q': (), 'p': ('y',)}, [('shut', 'p', ())]))
        self.assertFalse(one != Locking(Locks('x'), {'p': ('y',), 'q': ()}, [('shut', 'p', ())]))
        for other in [Locking(Locks(), {'p': ('y',), 'q': ()}, [('shut', 'p', ())]),
                      Locking(Locks('x'), {'p': (), 'q': ()}, [('shut', 'p', ())]),
                      Locking(Locks('x'), {'p': ('y',)}, [('shut', 'p', ())]),
                      Locking(Locks('x'), {'p': ('y',), 'q': ()}, []),
                      NoLocking([('shut', 'p', ())]), None, True, Locks('x'), (Locks('x'), {}, [])]:
            self.assertFalse(one == other)
            self.assertTrue(one != other)

    def test_none_equal(self):
        one = NoLocking([('shut', 'p', ()), ('shut', 'q', ())])
        self.assertTrue(one == NoLocking([('shut', 'p', ()), ('shut', 'q', ())]))
        self.assertFalse(one != NoLocking([('shut', 'p', ()), ('shut', 'q', ())]))
        for other in [NoLocking([]), NoLocking([('shut', 'q', ()), ('shut', 'p', ())]), NoLocking([('shut', 'p', ())]),
                      Locking(Locks(), {}, [('shut', 'p', ()), ('shut', 'q', ())]), None,
                      [('shut', 'p', ()), ('shut', 'q', ())]]:
            self.assertFalse(one == other)
            self.assertTrue(one != other)

    def test_equality_follows_the_current_attributes(self):
        one, other = Locking(Locks('x'), {'p': ()}, []), Locking(Locks('y'), {'p': ()}, [])
        self.assertFalse(one == other)
        one.locks = Locks('y')
        self.assertTrue(one == other)
