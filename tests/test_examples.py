"""The examples of the document, for all files."""

import unittest

from lockdoors.errors import BadText
from lockdoors.keeping import changes, keep_out
from lockdoors.locks import Locks
from lockdoors.plans import Building, Door, Person
from lockdoors.reasons import cheapest, rules_out, trail_of
from lockdoors.texts import building_text, read_building
from lockdoors.walks import Walk


class ExamplesTest(unittest.TestCase):
    def setUp(self):
        doors = {'front': Door('hall', 'den'), 'cellar': Door('den', 'vault', key='iron', cost=3),
                 'stairs': Door('hall', 'attic', both=True)}
        people = {'ann': Person('hall', shuns=('vault',)), 'bob': Person('attic', needs=('den',))}
        self.house = Building(('hall', 'den', 'attic', 'vault'), {'iron': 'attic'}, doors, people)

    def test_locks(self):
        locks = Locks('gate', 'back') | Locks('gate', 'attic')
        self.assertEqual([locks.names, len(locks), 'back' in locks - Locks('back'), bool(locks & Locks('cellar')),
                          locks.holds(Locks('attic'))],
                         [['attic', 'back', 'gate'], 3, False, False, True])

    def test_plans(self):
        house = self.house
        self.assertEqual([house.reach('ann', Locks()), house.reach('ann', Locks('stairs')),
                          house.is_right(Locks('stairs')), house.is_right(Locks('cellar'))],
                         [['hall', 'den', 'attic', 'vault'], ['hall', 'den'], False, True])

    def test_reasons(self):
        house = self.house
        found = cheapest(house)
        self.assertEqual([found.locks.names, trail_of(house, 'bob', found.locks), found.shows(house),
                          rules_out(house, ('shut', 'bob', ('stairs',)), Locks('stairs'))],
                         [['cellar'], ('stairs', 'front'), True, True])

    def test_keeping(self):
        house = self.house
        found = keep_out(house, 'ann', 'vault')
        self.assertEqual([found.locks.names, found.shows(house, 'ann', 'vault'),
                          changes(house, Locks(), Locks('stairs'))[:2]],
                         [['front'], True, [('ann', 'attic', 'lost'), ('ann', 'vault', 'lost')]])

    def test_walks(self):
        walk = Walk.along(self.house, 'ann', Locks('front'), ('stairs', 'stairs'))
        self.assertEqual([walk.room, walk.visited, list(walk.ahead()), 'iron' in walk, len(walk), bool(walk),
                          walk.back(), walk.room],
                         ['hall', ['hall', 'attic'], ['stairs'], True, 2, False, 'stairs', 'attic'])

    def test_texts(self):
        text = ('rooms hall den\nkey iron hall\ndoor gate hall den 3 both key iron\n'
                'person ann den has iron shuns hall\n')
        self.assertEqual([building_text(read_building(text)) == text, read_building(text).door('gate').both],
                         [True, True])

    def test_text_that_is_refused(self):
        with self.assertRaises(BadText) as caught:
            read_building('rooms hall den\ndoor gate hall hall 3\n')
        self.assertEqual(caught.exception.row, 1)
