"""Building, in the section lockdoors/plans.py of the interface, without its reach, and points [1] to [4]."""

import unittest

from lockdoors.errors import BadBuilding, BadLocks, BadName
from lockdoors.locks import Locks
from lockdoors.plans import Building, Door, Person
from tests.samples import KEYS, NOT_LOCKS, RIGHT_NAMES, ROOMS, WRONG_NAMES, doors, house, people

NAMES = ['a', 'b', 'c', 'd', 'e', 'f', 'g', 'h', 'i', 'j']
NOT_DICTS = [None, True, False, 0, 1, '', 'front', [], ['front'], (), ('front',), set(), {'front'}, b'', object(), dict]


def part_of(rooms, keys, the_doors, the_people):
    """The part that is refused, or 'none'."""
    try:
        Building(rooms, keys, the_doors, the_people)
    except BadBuilding as error:
        return error.part
    return 'none'


def part_with(rooms=ROOMS, keys=KEYS, the_doors=None, the_people=None):
    """The same for the house, with some of its parts replaced."""
    return part_of(rooms, keys, doors() if the_doors is None else the_doors,
                   people() if the_people is None else the_people)


class PartsTest(unittest.TestCase):
    def test_example(self):
        self.assertEqual(
            [house().reach('ann', Locks()), house().reach('ann', Locks('stairs')), house().is_right(Locks('stairs')),
             house().is_right(Locks('cellar'))],
            [['hall', 'den', 'attic', 'vault'], ['hall', 'den'], False, True])

    def test_rooms(self):
        self.assertEqual(house().rooms, ('hall', 'den', 'attic', 'vault'))
        self.assertIsInstance(house().rooms, tuple)

    def test_key_rooms(self):
        self.assertEqual(house().key_rooms, {'iron': 'attic'})
        keys = {'tin': 'hall', 'gold': 'vault', 'iron': 'hall'}
        building = Building(ROOMS, keys, doors(), people())
        self.assertEqual(list(building.key_rooms.items()), [('gold', 'vault'), ('iron', 'hall'), ('tin', 'hall')])
        self.assertEqual(list(keys), ['tin', 'gold', 'iron'])

    def test_no_keys(self):
        building = Building(('a', 'b'), {}, {'d': Door('a', 'b')}, {'p': Person('a')})
        self.assertEqual(building.key_rooms, {})

    def test_doors_and_people_in_order(self):
        self.assertEqual(house().doors, ['front', 'cellar', 'stairs'])
        self.assertEqual(house().people, ['ann', 'bob'])
        turned = Building(ROOMS, KEYS, dict(reversed(doors().items())), dict(reversed(people().items())))
        self.assertEqual(turned.doors, ['stairs', 'cellar', 'front'])
        self.assertEqual(turned.people, ['bob', 'ann'])

    def test_door(self):
        for name in doors():
            self.assertEqual(house().door(name), doors()[name])

    def test_person(self):
        for name in people():
            self.assertEqual(house().person(name), people()[name])

    def test_door_is_no_name_of_one(self):
        for wrong in WRONG_NAMES + ['ann', 'hall', 'iron', 'fron', 'fronts']:
            with self.subTest(wrong=wrong), self.assertRaises(BadName):
                house().door(wrong)

    def test_person_is_no_name_of_one(self):
        for wrong in WRONG_NAMES + ['front', 'hall', 'iron', 'an', 'anna']:
            with self.subTest(wrong=wrong), self.assertRaises(BadName):
                house().person(wrong)

    def test_one_name_for_a_door_a_room_a_key_and_a_person(self):
        for name in ['a', 'k']:
            building = Building(('a', 'b'), {'k': 'a'}, {name: Door('a', 'b')}, {name: Person('b')})
            self.assertEqual([building.doors, building.people], [[name], [name]])
            self.assertEqual(building.door(name), Door('a', 'b'))
            self.assertEqual(building.person(name), Person('b'))


class PriceTest(unittest.TestCase):
    def test_price(self):
        self.assertEqual(house().price(Locks()), 0)
        self.assertEqual(house().price(Locks('front')), 1)
        self.assertEqual(house().price(Locks('cellar', 'stairs')), 4)
        self.assertEqual(house().price(Locks('stairs', 'front', 'cellar', 'front')), 5)

    def test_highest_price(self):
        building = Building(('a', 'b'), {}, {name: Door('a', 'b', cost=9) for name in NAMES[:8]}, {'p': Person('a')})
        self.assertEqual(building.price(Locks(*NAMES[:8])), 72)

    def test_not_locks(self):
        for wrong in NOT_LOCKS:
            with self.subTest(wrong=wrong), self.assertRaises(BadLocks):
                house().price(wrong)

    def test_other_doors(self):
        for locks in [Locks('gate'), Locks('front', 'gate'), Locks('zoo', 'stairs'), Locks('hall'), Locks('ann')]:
            with self.assertRaises(BadLocks):
                house().price(locks)


class EqualityTest(unittest.TestCase):
    def test_equal(self):
        self.assertTrue(house() == house())
        self.assertFalse(house() != house())

    def test_keys_in_any_order(self):
        one = Building(ROOMS, {'iron': 'attic', 'gold': 'den'}, doors(), people())
        self.assertTrue(one == Building(ROOMS, {'gold': 'den', 'iron': 'attic'}, doors(), people()))

    def test_other_orders(self):
        self.assertFalse(house() == Building(tuple(reversed(ROOMS)), KEYS, doors(), people()))
        self.assertFalse(house() == Building(ROOMS, KEYS, dict(reversed(doors().items())), people()))
        self.assertFalse(house() == Building(ROOMS, KEYS, doors(), dict(reversed(people().items()))))

    def test_other_parts(self):
        others = [
            Building(ROOMS + ('shed',), KEYS, doors(), people()),
            Building(ROOMS, {'iron': 'den'}, doors(), people()),
            Building(ROOMS, {'iron': 'attic', 'gold': 'den'}, doors(), people()),
            Building(ROOMS, KEYS, {**doors(), 'stairs': Door('hall', 'attic')}, people()),
            Building(ROOMS, KEYS, {**doors(), 'back': Door('hall', 'attic')}, people()),
            Building(ROOMS, KEYS, doors(), {**people(), 'bob': Person('attic')}),
            Building(ROOMS, KEYS, doors(), {**people(), 'eve': Person('attic')}),
        ]
        renamed = dict(zip(['front', 'cellar', 'ladder'], doors().values()))
        others.append(Building(ROOMS, KEYS, renamed, people()))
        others.append(Building(ROOMS, KEYS, doors(), dict(zip(['ann', 'eve'], people().values()))))
        for other in others:
            self.assertFalse(house() == other)
            self.assertFalse(other == house())
            self.assertTrue(house() != other)

    def test_other_values(self):
        for other in [None, True, 'house', ROOMS, (ROOMS, KEYS, doors(), people())]:
            self.assertFalse(house() == other)
            self.assertTrue(house() != other)


class SizesTest(unittest.TestCase):
    def test_number_of_rooms(self):
        for many in range(0, 10):
            rooms = tuple(NAMES[:many])
            found = part_of(rooms, {}, {'d': Door('a', 'b')}, {'p': Person('a')})
            self.assertEqual(found, 'none' if 2 <= many <= 6 else 'ROOMS')

    def test_number_of_keys(self):
        for many in range(0, 6):
            keys = {name: 'x' for name in NAMES[:many]}
            found = part_of(('x', 'y'), keys, {'d': Door('x', 'y')}, {'p': Person('x')})
            self.assertEqual(found, 'none' if many <= 3 else 'KEYS')

    def test_number_of_doors(self):
        for many in range(0, 11):
            the_doors = {name: Door('x', 'y') for name in NAMES[:many]}
            found = part_of(('x', 'y'), {}, the_doors, {'p': Person('x')})
            self.assertEqual(found, 'none' if 1 <= many <= 8 else 'DOORS')

    def test_number_of_people(self):
        for many in range(0, 7):
            the_people = {name: Person('x') for name in NAMES[:many]}
            found = part_of(('x', 'y'), {}, {'d': Door('x', 'y')}, the_people)
            self.assertEqual(found, 'none' if 1 <= many <= 4 else 'PEOPLE')

    def test_all_at_their_upper_bounds(self):
        rooms = tuple(NAMES[:6])
        keys = {'x': 'a', 'y': 'f', 'z': 'f'}
        the_doors = {name: Door('a', 'f', key='z', both=True, cost=9) for name in NAMES[:8]}
        the_people = {name: Person('f', carried=('x', 'y', 'z'), needs=rooms[:3], shuns=rooms[3:])
                      for name in NAMES[:4]}
        building = Building(rooms, keys, the_doors, the_people)
        self.assertEqual([len(building.rooms), len(building.key_rooms), len(building.doors), len(building.people)],
                         [6, 3, 8, 4])


class RefusedTest(unittest.TestCase):
    def test_rooms(self):
        wrong_rooms = [None, True, 0, 'ab', [], ['hall', 'den'], list(ROOMS), {'hall': 1, 'den': 2}, {'hall', 'den'},
                       ROOMS + ('hall',), ('hall', 'hall'), ('den', 'hall', 'den')]
        wrong_rooms += [(wrong, 'hall', 'den') for wrong in WRONG_NAMES]
        wrong_rooms += [ROOMS + (wrong,) for wrong in WRONG_NAMES]
        for rooms in wrong_rooms:
            with self.subTest(rooms=rooms):
                self.assertEqual(part_with(rooms=rooms), 'ROOMS')

    def test_keys(self):
        wrong_keys = list(NOT_DICTS)
        wrong_keys += [{wrong: 'hall'} for wrong in WRONG_NAMES if isinstance(wrong, (str, int, tuple, bytes))]
        wrong_keys += [{None: 'hall'}, {'iron': 'attic', 'Gold': 'hall'}, {'iron': 'attic', 1: 'hall'}]
        wrong_keys += [{'iron': wrong} for wrong in WRONG_NAMES]
        wrong_keys += [{'iron': 'attic', 'gold': wrong} for wrong in WRONG_NAMES]
        wrong_keys += [{'iron': 'shed'}, {'iron': 'iron'}, {'iron': 'front'}, {'iron': 'ann'}]
        for keys in wrong_keys:
            with self.subTest(keys=keys):
                self.assertEqual(part_with(keys=keys), 'KEYS')

    def test_key_called_like_a_room(self):
        for room in ROOMS:
            self.assertEqual(part_with(keys={'iron': 'attic', room: 'hall'}), 'KEYS')

    def test_names_of_keys(self):
        for name in RIGHT_NAMES:
            if name not in ROOMS:
                self.assertEqual(part_with(keys={'iron': 'attic', name: 'hall'}), 'none')

    def test_doors(self):
        wrong_doors = [wrong for wrong in NOT_DICTS if wrong is not None]
        wrong_doors += [{wrong: Door('hall', 'den')} for wrong in WRONG_NAMES
                        if isinstance(wrong, (str, int, tuple, bytes))]
        wrong_doors += [{None: Door('hall', 'den')}, {**doors(), 5: Door('hall', 'den')}]
        wrong_doors += [{'gate': wrong} for wrong in [None, True, 1, 'hall', ('hall', 'den'), [], {}, Person('hall'),
                                                      Door, Locks('gate')]]
        wrong_doors += [{'gate': Door('hall', 'shed')}, {'gate': Door('shed', 'hall')}, {'gate': Door('hall', 'iron')},
                        {'gate': Door('hall', 'den', key='gold')}, {'gate': Door('hall', 'den', key='den')},
                        {'gate': Door('hall', 'shed', both=True)}, {**doors(), 'gate': Door('hall', 'shed')},
                        {'gate': Door('hall', 'shed'), **doors()}, {**doors(), 'gate': None}]
        for wrong in wrong_doors:
            with self.subTest(wrong=wrong):
                self.assertEqual(part_with(the_doors=wrong), 'DOORS')
        self.assertEqual(part_of(ROOMS, KEYS, None, people()), 'DOORS')

    def test_doors_with_a_key_in_a_building_without_keys(self):
        self.assertEqual(part_with(keys={}), 'DOORS')

    def test_people(self):
        wrong_people = [wrong for wrong in NOT_DICTS if wrong is not None]
        wrong_people += [{wrong: Person('hall')} for wrong in WRONG_NAMES
                         if isinstance(wrong, (str, int, tuple, bytes))]
        wrong_people += [{None: Person('hall')}, {**people(), 5: Person('hall')}]
        wrong_people += [{'ann': wrong} for wrong in [None, True, 1, 'hall', ('hall',), [], {}, Door('hall', 'den'),
                                                      Person, Locks('ann')]]
        wrong_people += [{'ann': Person('shed')}, {'ann': Person('iron')}, {'ann': Person('hall', carried=('gold',))},
                         {'ann': Person('hall', carried=('iron', 'hall'))}, {'ann': Person('hall', needs=('shed',))},
                         {'ann': Person('hall', needs=('den', 'iron'))}, {'ann': Person('hall', shuns=('shed',))},
                         {'ann': Person('hall', shuns=('den', 'iron'))}, {**people(), 'eve': Person('shed')},
                         {'eve': Person('hall', shuns=('shed',)), **people()}, {**people(), 'eve': None}]
        for wrong in wrong_people:
            with self.subTest(wrong=wrong):
                self.assertEqual(part_with(the_people=wrong), 'PEOPLE')
        self.assertEqual(part_of(ROOMS, KEYS, doors(), None), 'PEOPLE')

    def test_first_part_that_applies(self):
        right = (ROOMS, KEYS, doors(), people())
        parts = ['ROOMS', 'KEYS', 'DOORS', 'PEOPLE']
        for wrong in [None, [], 5, True, object()]:
            for which in range(1, 16):
                values = [wrong if which >> at & 1 else right[at] for at in range(4)]
                first = [parts[at] for at in range(4) if which >> at & 1][0]
                with self.subTest(wrong=wrong, which=which):
                    self.assertEqual(part_of(*values), first)

    def test_first_part_with_wrong_contents(self):
        self.assertEqual(part_of(('hall', 'hall'), {'iron': 'shed'}, {'d': Door('x', 'y')}, {'p': Person('x')}), 'ROOMS')
        self.assertEqual(part_of(('hall', 'den'), {'iron': 'shed'}, {'d': Door('x', 'y')}, {'p': Person('x')}), 'KEYS')
        self.assertEqual(part_of(('hall', 'den'), {}, {'d': Door('x', 'y')}, {'p': Person('x')}), 'DOORS')
        self.assertEqual(part_of(('hall', 'den'), {}, {'d': Door('hall', 'den')}, {'p': Person('x')}), 'PEOPLE')


class CopiesTest(unittest.TestCase):
    def test_arguments_are_not_kept(self):
        keys, the_doors, the_people = dict(KEYS), doors(), people()
        building = Building(ROOMS, keys, the_doors, the_people)
        keys['iron'] = 'hall'
        keys['gold'] = 'den'
        the_doors['front'] = Door('den', 'hall')
        the_doors['gate'] = Door('den', 'hall')
        del the_doors['stairs']
        the_people.clear()
        self.assertEqual(building, house())
        self.assertEqual(building.key_rooms, {'iron': 'attic'})
        self.assertEqual(building.doors, ['front', 'cellar', 'stairs'])
        self.assertEqual(building.door('front'), Door('hall', 'den'))
        self.assertEqual(building.people, ['ann', 'bob'])
        self.assertEqual(building.reach('ann', Locks('front')), ['hall', 'attic'])
        with self.assertRaises(BadName):
            building.door('gate')

    def test_arguments_are_not_modified(self):
        keys, the_doors, the_people = {'tin': 'hall', 'iron': 'den'}, doors(), people()
        building = Building(ROOMS, keys, the_doors, the_people)
        building.reach('ann', Locks('front'))
        building.is_right(Locks())
        self.assertEqual(list(keys.items()), [('tin', 'hall'), ('iron', 'den')])
        self.assertEqual(list(the_doors.items()), list(doors().items()))
        self.assertEqual(list(the_people.items()), list(people().items()))

    def test_returned_values_are_new(self):
        building = house()
        building.key_rooms['iron'] = 'hall'
        building.key_rooms.clear()
        building.doors.reverse()
        building.doors.append('gate')
        building.people.clear()
        building.reach('ann', Locks()).clear()
        self.assertEqual(building, house())
        self.assertEqual(building.key_rooms, {'iron': 'attic'})
        self.assertEqual(building.doors, ['front', 'cellar', 'stairs'])
        self.assertEqual(building.people, ['ann', 'bob'])
        self.assertEqual(building.reach('ann', Locks()), list(ROOMS))

    def test_kinds(self):
        building = house()
        kinds = [type(value) for value in (building.key_rooms, building.doors, building.people,
                                           building.reach('bob', Locks()))]
        self.assertEqual(kinds, [dict, list, list, list])

    def test_refused_calls_change_nothing(self):
        building = house()
        for call in [lambda: building.reach('eve', Locks()), lambda: building.reach('ann', Locks('gate')),
                     lambda: building.price(None), lambda: building.door('gate'), lambda: building.person([])]:
            with self.assertRaises((BadName, BadLocks)):
                call()
        self.assertEqual(building, house())
