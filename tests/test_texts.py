"""Text, point [12]."""

import random
import re
import unittest
from unittest.mock import ANY

from lockdoors.errors import BadBuilding, BadName, BadText
from lockdoors.plans import Building, Door, Person
from lockdoors.texts import building_text, read_building
from tests.samples import LETTERS, NOT_BUILDINGS, WRONG_STRINGS, house
from tests.tries import largest_building, some_building

HOUSE = '''rooms hall den attic vault
key iron attic
door front hall den 1
door cellar den vault 3 key iron
door stairs hall attic 1 both
person ann hall shuns vault
person bob attic needs den
'''
LINES = HOUSE.splitlines()

# A line feed or a space would make two words of one.
WRONG_WORDS = [wrong for wrong in WRONG_STRINGS if '\n' not in wrong and wrong != 'ha ll']

NAME = '[a-z]{1,8}'
PERSON_NAME = f'(?!(?:has|needs|shuns)(?: |$)){NAME}'
GROUP = f'{PERSON_NAME}(?: {PERSON_NAME})*'
FORMS = {
    'rooms': re.compile(f'rooms ({NAME}(?: {NAME})*)'),
    'key': re.compile(f'key ({NAME}) ({NAME})'),
    'door': re.compile(f'door ({NAME}) ({NAME}) ({NAME}) ([1-9])( both)?(?: key ({NAME}))?'),
    'person': re.compile(f'person ({PERSON_NAME}) ({PERSON_NAME})(?: has ({GROUP}))?(?: needs ({GROUP}))?'
                         f'(?: shuns ({GROUP}))?'),
}


def row_of(text):
    """The row of the error, or None if the text is read."""
    try:
        read_building(text)
    except BadText as error:
        return error.row
    return None


def differ(names):
    return len(set(names)) == len(names)


def fits(line):
    """The word with which a line begins if it has one of the forms, otherwise None."""
    word = line.split(' ')[0]
    found = FORMS[word].fullmatch(line) if word in FORMS else None
    if found is None:
        return None
    if word == 'rooms':
        return word if differ(found[1].split()) else None
    if word == 'door':
        return word if found[2] != found[3] else None
    if word == 'person':
        groups = [(found[at] or '').split() for at in (3, 4, 5)]
        return word if all(map(differ, groups)) and differ(groups[1] + groups[2]) else None
    return word


def wanted_row(text):
    """The row by the words of the interface; -1 if that depends on whether the lines form a building."""
    lines = text.split('\n')[:-1]
    earlier = []
    for row, line in enumerate(lines):
        word = fits(line)
        stands = {None: False, 'rooms': row == 0, 'key': row > 0 and 'door' not in earlier,
                  'door': row > 0 and 'person' not in earlier, 'person': row > 0}[word]
        if not stands:
            return row
        earlier.append(word)
    if 'person' not in earlier or not text.endswith('\n'):
        return len(lines)
    return -1


class WriteTest(unittest.TestCase):
    def test_house(self):
        self.assertEqual(building_text(house()), HOUSE)

    def test_every_form_of_line(self):
        doors = {'gate': Door('hall', 'den', cost=3, both=True, key='iron'), 'front': Door('den', 'hall'),
                 'back': Door('hall', 'den', cost=9, key='gold'), 'side': Door('den', 'hall', both=True, cost=2)}
        people = {'ann': Person('hall'), 'bob': Person('attic', carried=('iron',), needs=('den', 'hall')),
                  'cid': Person('den', carried=('iron', 'gold'), needs=('hall',), shuns=('den', 'attic')),
                  'dan': Person('den', shuns=('attic', 'den'))}
        building = Building(('hall', 'den', 'attic'), {'tin': 'hall', 'iron': 'attic', 'gold': 'hall'}, doors, people)
        text = ('rooms hall den attic\nkey gold hall\nkey iron attic\nkey tin hall\ndoor gate hall den 3 both key iron\n'
                'door front den hall 1\ndoor back hall den 9 key gold\ndoor side den hall 2 both\nperson ann hall\n'
                'person bob attic has iron needs den hall\n'
                'person cid den has iron gold needs hall shuns den attic\nperson dan den shuns attic den\n')
        self.assertEqual(building_text(building), text)
        self.assertEqual(read_building(text), building)

    def test_all_groups(self):
        keys = {'k': 'a', 'l': 'a', 'm': 'b'}
        for carried in [(), ('k',), ('m', 'k', 'l')]:
            for needs in [(), ('b',), ('c', 'a')]:
                for shuns in [(), ('d',), ('e', 'd')]:
                    person = Person('a', carried=carried, needs=needs, shuns=shuns)
                    building = Building(('a', 'b', 'c', 'd', 'e'), keys, {'x': Door('a', 'b')}, {'p': person})
                    words = ['person p a'] + [word + ' ' + ' '.join(names) for word, names in
                                              [('has', carried), ('needs', needs), ('shuns', shuns)] if names]
                    self.assertEqual(building_text(building).splitlines()[-1], ' '.join(words))
                    self.assertEqual(read_building(building_text(building)), building)

    def test_restored(self):
        source = random.Random(71)
        for turn in range(200):
            building = largest_building(source) if turn % 4 == 0 else some_building(source)
            text = building_text(building)
            again = read_building(text)
            self.assertEqual(again, building)
            self.assertEqual(building_text(again), text)
            self.assertTrue(text.endswith('\n'))
            self.assertEqual(wanted_row(text), -1)

    def test_words_as_names(self):
        doors = {'both': Door('key', 'rooms', key='door', both=True), 'has': Door('rooms', 'key'),
                 'needs': Door('key', 'rooms'), 'shuns': Door('key', 'rooms'), 'key': Door('key', 'rooms', key='both')}
        people = {'person': Person('key', carried=('both', 'door'), needs=('rooms',)), 'door': Person('rooms')}
        building = Building(('key', 'rooms'), {'door': 'key', 'both': 'rooms'}, doors, people)
        text = building_text(building)
        self.assertIn('\ndoor both key rooms 1 both key door\n', text)
        self.assertIn('\nperson person key has both door needs rooms\n', text)
        self.assertEqual(read_building(text), building)

    def test_barred_names_in_the_line_of_a_person(self):
        for word in ['has', 'needs', 'shuns']:
            rooms, doors = ('hall', 'den', word), {'front': Door('hall', 'den')}
            people = [{word: Person('hall')}, {'ann': Person(word)}, {'ann': Person('hall', needs=(word,))},
                      {'ann': Person('hall', needs=('den', word))}, {'ann': Person('hall', shuns=(word,))},
                      {'ann': Person('hall', shuns=('den', word))}, {'ann': Person('hall'), word: Person('hall')}]
            for some in people:
                with self.subTest(some=some), self.assertRaises(BadName):
                    building_text(Building(rooms, {}, doors, some))
            for carried in [(word,), ('iron', word)]:
                with self.subTest(carried=carried), self.assertRaises(BadName):
                    building_text(Building(('hall', 'den'), {'iron': 'hall', word: 'hall'}, doors,
                                           {'ann': Person('hall', carried=carried)}))

    def test_barred_names_elsewhere(self):
        for word, other in [('has', 'needs'), ('needs', 'shuns'), ('shuns', 'has')]:
            building = Building(('hall', word), {other: word}, {word: Door('hall', word, key=other)},
                                {'ann': Person('hall')})
            text = f'rooms hall {word}\nkey {other} {word}\ndoor {word} hall {word} 1 key {other}\nperson ann hall\n'
            self.assertEqual(building_text(building), text)
            self.assertEqual(read_building(text), building)

    def test_not_a_building(self):
        for wrong in NOT_BUILDINGS:
            with self.subTest(wrong=wrong), self.assertRaises(BadBuilding) as caught:
                building_text(wrong)
            self.assertIsNone(caught.exception.part)


class ReadTest(unittest.TestCase):
    def test_house(self):
        self.assertEqual(read_building(HOUSE), house())
        self.assertIsInstance(read_building(HOUSE), Building)

    def test_keys_in_any_order(self):
        text = 'rooms a b\nkey {} a\nkey {} b\nkey {} a\ndoor x a b 1\nperson p a\n'
        one = read_building(text.format('k', 'l', 'm'))
        self.assertEqual(read_building('rooms a b\nkey m a\nkey l b\nkey k a\ndoor x a b 1\nperson p a\n'), one)
        self.assertEqual(list(one.key_rooms.items()), [('k', 'a'), ('l', 'b'), ('m', 'a')])
        self.assertEqual(list(read_building(text.format('m', 'k', 'l')).key_rooms), ['k', 'l', 'm'])

    def test_orders_are_kept(self):
        building = read_building('rooms c a b\ndoor z a b 1\ndoor x b c 2\nperson q a needs c a\nperson p b\n')
        self.assertEqual([building.rooms, building.doors, building.people, building.person('q').needs],
                         [('c', 'a', 'b'), ['z', 'x'], ['q', 'p'], ('c', 'a')])

    def test_not_a_string(self):
        for wrong in [None, True, False, 0, 1, 7, [], LINES, tuple(LINES), {}, set(), b'', HOUSE.encode(), object(), str,
                      house(), ANY]:
            with self.subTest(wrong=wrong):
                self.assertEqual(row_of(wrong), 0)

    def test_empty(self):
        self.assertEqual(row_of(''), 0)
        self.assertEqual(row_of('\n'), 0)
        self.assertEqual(row_of('rooms hall den'), 0)

    def test_no_person(self):
        for many in range(1, 6):
            self.assertEqual(row_of('\n'.join(LINES[:many]) + '\n'), many)

    def test_characters_behind_the_last_line_feed(self):
        for rest in [' ', 'x', 'person eve hall', 'rooms', '\r', '\t']:
            self.assertEqual(row_of(HOUSE + rest), 7)
        self.assertEqual(row_of(HOUSE[:-1]), 6)
        self.assertEqual(row_of('rooms hall den\nperson ann hall\nx'), 2)
        self.assertEqual(row_of('rooms hall den\nroom ann hall\nx'), 1)

    def test_further_line_feeds(self):
        self.assertEqual(row_of(HOUSE + '\n'), 7)
        self.assertEqual(row_of('\n' + HOUSE), 0)
        self.assertEqual(row_of(HOUSE.replace('\ndoor stairs', '\n\ndoor stairs')), 4)

    def test_other_ends_of_lines(self):
        self.assertEqual(row_of(HOUSE.replace('\n', '\r\n')), 0)
        self.assertEqual(row_of(HOUSE.replace('\n', '\r')), 0)
        for sign in ['\r', '\x0b', '\x0c', '\x1c', '\x85', '\u2028']:
            self.assertEqual(row_of(HOUSE.replace('1\ndoor cellar', f'1{sign}\ndoor cellar')), 2)

    def check_lines(self, row, wrong, lines=LINES):
        for line in wrong:
            changed = list(lines)
            changed[row] = line
            with self.subTest(line=line):
                self.assertEqual(row_of('\n'.join(changed) + '\n'), row)

    def test_lines_of_rooms(self):
        self.check_lines(0, ['', 'rooms', 'rooms ', ' rooms hall den', 'rooms  hall den', 'rooms hall  den',
                             'rooms hall den ', 'Rooms hall den', 'room hall den', 'rooms hall den hall',
                             'rooms hall hall', 'rooms hall\tden', 'rooms\thall den', 'roomshall den', 'hall den',
                             'key iron attic'])
        self.check_lines(0, ['rooms hall den ' + wrong for wrong in WRONG_WORDS])

    def test_row_of_a_wrong_line_of_rooms(self):
        # Only a line that is not accepted counts before the lines behind it.
        self.assertEqual(row_of('rooms\nfoo\n'), 0)
        self.assertEqual(row_of('rooms hall\nfoo\n'), 1)
        self.assertEqual(row_of('rooms a b c d e f g\nfoo\n'), 1)

    def test_one_room(self):
        self.assertEqual(row_of('rooms hall\nperson ann hall\n'), 0)
        self.assertEqual(row_of('rooms hall\n'), 1)
        self.assertEqual(row_of('rooms hall\ndoor x hall den 1\nperson ann hall\n'), 0)

    def test_lines_of_keys(self):
        self.check_lines(1, ['', 'key', 'key iron', 'key iron ', 'key iron attic ', 'key iron attic den', 'key  iron attic',
                             ' key iron attic', 'keys iron attic', 'KEY iron attic', 'key iron  attic', 'iron attic'])
        for wrong in WRONG_WORDS:
            self.check_lines(1, [f'key {wrong} attic', f'key iron {wrong}'])

    def test_lines_of_doors(self):
        self.check_lines(3, ['', 'door', 'door cellar', 'door cellar den', 'door cellar den vault', 'door cellar den vault ',
                             'door cellar den den 3', 'door cellar den vault 3 ', 'door cellar den vault 3 both ',
                             'door cellar den vault 3 key', 'door cellar den vault 3 key ', 'door cellar den vault both',
                             'door cellar den vault 3 key iron both', 'door cellar den vault 3 both both',
                             'door cellar den vault 3 both key', 'door cellar den vault 3 key iron iron',
                             'door cellar den vault 3 key iron key iron', 'door cellar den vault 3 iron',
                             'door cellar den vault 3 4', 'door cellar den vault 3 Both', 'door cellar den vault both 3',
                             'door cellar den vault 3 both iron', 'door  cellar den vault 3', ' door cellar den vault 3',
                             'doors cellar den vault 3', 'door cellar den vault  3', 'door den vault 3',
                             'door cellar den vault 3 both key iron both', 'door cellar den vault 3 key both key'])
        self.check_lines(3, ['door cellar den vault ' + cost for cost in
                             ['0', '10', '11', '-1', '+3', '03', '3.0', 'x', 'three', '\u0663', '\u00b3', '12', '123', '']])
        for wrong in WRONG_WORDS:
            self.check_lines(3, [f'door {wrong} den vault 3', f'door cellar {wrong} vault 3',
                                 f'door cellar den {wrong} 3', f'door cellar den vault 3 key {wrong}'])

    def test_all_costs(self):
        for cost in range(1, 10):
            text = f'rooms a b\ndoor x a b {cost}\nperson p a\n'
            self.assertEqual(read_building(text).door('x').cost, cost)
            self.assertEqual(building_text(read_building(text)), text)

    def test_lines_of_people(self):
        self.check_lines(6, ['', 'person', 'person bob', 'person bob ', 'person bob attic ', 'person bob attic has',
                             'person bob attic needs', 'person bob attic shuns', 'person bob attic has ',
                             'person bob attic den', 'person bob attic den needs hall', 'person bob attic needs den den',
                             'person bob attic has iron iron', 'person bob attic shuns den hall den',
                             'person bob attic needs den shuns den', 'person bob attic needs den hall shuns vault hall',
                             'person bob attic needs den has iron', 'person bob attic shuns den needs hall',
                             'person bob attic shuns den has iron', 'person bob attic has iron has gold',
                             'person bob attic needs den needs hall', 'person bob attic has needs den',
                             'person bob attic has iron needs', 'person bob attic has iron needs shuns den',
                             'person bob attic has iron needs den shuns', 'person bob attic has has',
                             'person bob attic needs shuns', 'person bob attic  needs den', 'person bob attic needs  den',
                             'person  bob attic', ' person bob attic', 'Person bob attic', 'people bob attic',
                             'person has attic', 'person needs attic', 'person shuns attic', 'person bob has',
                             'person bob needs', 'person bob shuns', 'person bob has iron', 'person bob needs den',
                             'person has has has', 'person bob attic Needs den', 'person bob has has iron', 'bob attic'])
        for wrong in WRONG_WORDS:
            self.check_lines(6, [f'person {wrong} attic', f'person bob {wrong}', f'person bob attic has {wrong}',
                                 f'person bob attic needs {wrong}', f'person bob attic shuns {wrong}',
                                 f'person bob attic has iron {wrong} needs den'])

    def test_rooms_first_and_only_there(self):
        for row in range(1, 7):
            self.assertEqual(row_of('\n'.join(LINES[:row] + LINES[:1] + LINES[row:]) + '\n'), row)
        self.assertEqual(row_of('\n'.join(LINES[1:]) + '\n'), 0)
        self.assertEqual(row_of('\n'.join(LINES + LINES[:1]) + '\n'), 7)
        for first in LINES[1:]:
            self.assertEqual(row_of('\n'.join([first] + LINES) + '\n'), 0)

    def test_no_keys_after_a_door(self):
        for row in range(3, 8):
            self.assertEqual(row_of('\n'.join(LINES[:row] + ['key gold hall'] + LINES[row:]) + '\n'), row)
        for row in [1, 2]:
            self.assertIsNone(row_of('\n'.join(LINES[:row] + ['key gold hall'] + LINES[row:]) + '\n'))

    def test_no_doors_after_a_person(self):
        for row in [6, 7]:
            self.assertEqual(row_of('\n'.join(LINES[:row] + ['door side hall den 1'] + LINES[row:]) + '\n'), row)
        for row in [2, 3, 4, 5]:
            self.assertIsNone(row_of('\n'.join(LINES[:row] + ['door side hall den 1'] + LINES[row:]) + '\n'))
        self.assertEqual(row_of('\n'.join(LINES[:2] + LINES[5:] + LINES[2:5]) + '\n'), 4)

    def test_keys_after_a_person_but_no_door(self):
        self.assertEqual(row_of('rooms a b\nperson p a\nkey k a\n'), 0)
        self.assertEqual(row_of('rooms a b\nperson p a\nkey k a\ndoor x a b 1\n'), 3)

    def test_name_twice(self):
        for again, row in [('key iron hall', 2), ('door front den hall 2', 3), ('person ann den', 6)]:
            self.assertEqual(row_of('\n'.join(LINES[:row] + [again] + LINES[row:]) + '\n'), 0)
        for row in [1, 2, 3, 4, 5, 6]:
            self.assertEqual(row_of('\n'.join(LINES[:row] + [LINES[row]] + LINES[row:]) + '\n'), 0)

    def test_lines_that_do_not_form_a_building(self):
        texts = [
            'rooms a b\nperson p a\n', 'rooms a b c d e f g\ndoor x a b 1\nperson p a\n',
            'rooms a\ndoor x a b 1\nperson p a\n', 'rooms a b\nkey k c\ndoor x a b 1\nperson p a\n',
            'rooms a b\nkey a b\ndoor x a b 1\nperson p a\n', 'rooms a b\nkey k k\ndoor x a b 1\nperson p a\n',
            'rooms a b\ndoor x a c 1\nperson p a\n', 'rooms a b\ndoor x a b 1 key k\nperson p a\n',
            'rooms a b\ndoor x a b 1\nperson p c\n', 'rooms a b\ndoor x a b 1\nperson p a has k\n',
            'rooms a b\ndoor x a b 1\nperson p a needs c\n', 'rooms a b\ndoor x a b 1\nperson p a shuns c\n',
            'rooms a b\n' + ''.join(f'key {name} a\n' for name in 'klmn') + 'door x a b 1\nperson p a\n',
            'rooms a b\n' + ''.join(f'door {name} a b 1\n' for name in LETTERS[:9]) + 'person p a\n',
            'rooms a b\ndoor x a b 1\n' + ''.join(f'person {name} a\n' for name in LETTERS[:5]),
        ]
        for text in texts:
            with self.subTest(text=text):
                self.assertEqual(row_of(text), 0)
                # A line that is not accepted, and characters behind the last line feed, come first.
                self.assertEqual(row_of(text + 'x\n'), text.count('\n'))
                self.assertEqual(row_of(text + 'x'), text.count('\n'))

    def test_sizes_at_their_bounds(self):
        text = ('rooms a b c d e f\n' + ''.join(f'key {name} a\n' for name in 'xyz')
                + ''.join(f'door {name} a b 9 both key z\n' for name in LETTERS[:8])
                + ''.join(f'person {name} a has x y z needs a b c shuns d e f\n' for name in LETTERS[:4]))
        self.assertEqual(building_text(read_building(text)), text)

    def test_first_line_that_is_not_accepted(self):
        for one in range(7):
            for other in range(one, 7):
                lines = list(LINES)
                lines[one] = lines[other] = lines[other] + ' %'
                self.assertEqual(row_of('\n'.join(lines) + '\nx'), one)

    def test_altered_lines(self):
        """Lines altered, removed, duplicated or moved, compared with the forms written as patterns."""
        source = random.Random(72)
        seen = {'row': 0, 'end': 0, 'read': 0}
        for turn in range(3000):
            lines = building_text(some_building(source)).splitlines()
            for again in range(source.randint(1, 2)):
                self.alter(source, lines)
            text = '\n'.join(lines) + source.choice(['\n', '\n', '\n', '\n', '', '\nperson', '\n '])
            wanted = wanted_row(text)
            found = row_of(text)
            with self.subTest(text=text):
                if wanted >= 0:
                    seen['row'] += 1
                    self.assertEqual(found, wanted)
                elif found is None:
                    seen['read'] += 1
                    keys = [line for line in lines if line.startswith('key ')]
                    rest = [line for line in lines[1:] if not line.startswith('key ')]
                    self.assertEqual(building_text(read_building(text)).splitlines(), lines[:1] + sorted(keys) + rest)
                else:
                    seen['end'] += 1
                    self.assertEqual(found, 0)
        self.assertGreater(min(seen.values()), 100)

    def alter(self, source, lines):
        at, to = source.randrange(len(lines)), source.randrange(len(lines))
        way = source.randrange(6)
        if way == 0 and len(lines) > 1:
            del lines[at]
        elif way == 1:
            lines.insert(to, lines[at])
        elif way == 2:
            lines.insert(to, lines.pop(at))
        elif way == 3:
            words = lines[at].split(' ')
            words[source.randrange(len(words))] = source.choice(
                ['has', 'needs', 'shuns', 'both', 'key', 'a', 'b', 'x', '', '7', '0', 'Q', 'abcdefghi', 'person', 'door'])
            lines[at] = ' '.join(words)
        elif way == 4:
            words = lines[at].split(' ')
            words.insert(source.randrange(len(words) + 1), source.choice(words + ['has', 'needs', 'shuns', 'both', 'a']))
            lines[at] = ' '.join(words)
        elif way == 5:
            words = lines[at].split(' ')
            del words[source.randrange(len(words))]
            lines[at] = ' '.join(words)
