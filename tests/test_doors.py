"""Door, in the section lockdoors/plans.py of the interface, and point [3]."""

import inspect
import unittest

from lockdoors.errors import BadDoor
from lockdoors.plans import Door
from tests.samples import RIGHT_NAMES, WRONG_NAMES

NOT_BOOLEANS = [0, 1, None, '', 'yes', 'True', [], [True], (), {}, b'', object()]
NOT_COSTS = [0, 10, 11, -1, -9, 10 ** 20, True, False, None, '', '1', 'one', [], [1], (1,), {}, {1: 1}, b'1', object()]


def parts(door):
    return [door.start, door.end, door.key, door.both, door.cost]


class DoorTest(unittest.TestCase):
    def test_defaults(self):
        self.assertEqual(parts(Door('hall', 'den')), ['hall', 'den', None, False, 1])
        self.assertIs(Door('hall', 'den').both, False)
        self.assertIsNone(Door('hall', 'den').key)

    def test_properties(self):
        door = Door('hall', 'den', key='iron', both=True, cost=7)
        self.assertEqual(parts(door), ['hall', 'den', 'iron', True, 7])
        self.assertIs(door.both, True)

    def test_each_keyword_alone(self):
        self.assertEqual(parts(Door('a', 'b', key='iron')), ['a', 'b', 'iron', False, 1])
        self.assertEqual(parts(Door('a', 'b', both=True)), ['a', 'b', None, True, 1])
        self.assertEqual(parts(Door('a', 'b', cost=4)), ['a', 'b', None, False, 4])
        self.assertEqual(parts(Door('a', 'b', key=None, both=False, cost=1)), ['a', 'b', None, False, 1])

    def test_parameters_by_name(self):
        self.assertEqual(parts(Door(end='den', start='hall')), ['hall', 'den', None, False, 1])
        for extra in ['iron', None]:
            with self.assertRaises(TypeError):
                Door('hall', 'den', extra)

    def test_all_costs(self):
        for cost in range(1, 10):
            self.assertEqual(Door('hall', 'den', cost=cost).cost, cost)

    def test_ways(self):
        self.assertEqual(list(Door('hall', 'den').ways()), [('hall', 'den')])
        self.assertEqual(list(Door('hall', 'den', both=True).ways()), [('hall', 'den'), ('den', 'hall')])
        self.assertEqual(list(Door('den', 'hall', both=True, key='iron').ways()), [('den', 'hall'), ('hall', 'den')])

    def test_ways_is_a_generator_of_tuples(self):
        door = Door('hall', 'den', both=True)
        self.assertTrue(inspect.isgenerator(door.ways()))
        for way in door.ways():
            self.assertIsInstance(way, tuple)
        self.assertEqual(list(door.ways()), list(door.ways()))

    def test_equality(self):
        self.assertTrue(Door('a', 'b') == Door('a', 'b', key=None, both=False, cost=1))
        self.assertFalse(Door('a', 'b') != Door('a', 'b'))
        one = Door('a', 'b', key='iron', both=True, cost=2)
        self.assertTrue(one == Door('a', 'b', key='iron', both=True, cost=2))
        others = [Door('c', 'b', key='iron', both=True, cost=2), Door('a', 'c', key='iron', both=True, cost=2),
                  Door('a', 'b', key='gold', both=True, cost=2), Door('a', 'b', both=True, cost=2),
                  Door('a', 'b', key='iron', cost=2), Door('a', 'b', key='iron', both=True, cost=3),
                  Door('b', 'a', key='iron', both=True, cost=2)]
        for other in others + [None, True, 'a', ('a', 'b', 'iron', True, 2)]:
            with self.subTest(other=other):
                self.assertFalse(one == other)
                self.assertTrue(one != other)

    def test_right_names(self):
        for name in RIGHT_NAMES:
            self.assertEqual(parts(Door(name, 'other', key=name)), [name, 'other', name, False, 1])
            self.assertEqual(Door('other', name).end, name)

    def test_key_may_be_called_like_a_room(self):
        self.assertEqual(Door('a', 'b', key='a').key, 'a')

    def test_wrong_rooms(self):
        for wrong in WRONG_NAMES:
            with self.subTest(wrong=wrong):
                for start, end in [(wrong, 'den'), ('den', wrong), (wrong, wrong)]:
                    with self.assertRaises(BadDoor):
                        Door(start, end)

    def test_same_room(self):
        for name in RIGHT_NAMES:
            with self.assertRaises(BadDoor):
                Door(name, name)
            with self.assertRaises(BadDoor):
                Door(name, name, both=True)

    def test_wrong_keys(self):
        for wrong in WRONG_NAMES:
            if wrong is not None:
                with self.subTest(wrong=wrong), self.assertRaises(BadDoor):
                    Door('hall', 'den', key=wrong)

    def test_wrong_both(self):
        for wrong in NOT_BOOLEANS:
            with self.subTest(wrong=wrong), self.assertRaises(BadDoor):
                Door('hall', 'den', both=wrong)

    def test_wrong_costs(self):
        for wrong in NOT_COSTS:
            with self.subTest(wrong=wrong), self.assertRaises(BadDoor):
                Door('hall', 'den', cost=wrong)

    def test_several_wrong(self):
        for rooms in [(1, 2), ([], {}), ('hall', 'hall'), ('hall', None), ('hall', 'den')]:
            for key in [[], True, '']:
                for both in [1, None, []]:
                    for cost in [0, 'x', [], True]:
                        with self.assertRaises(BadDoor):
                            Door(*rooms, key=key, both=both, cost=cost)
