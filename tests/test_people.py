"""Person, in the section lockdoors/plans.py of the interface, and point [4]."""

import unittest

from lockdoors.errors import BadPerson
from lockdoors.plans import Person
from tests.samples import RIGHT_NAMES, WRONG_NAMES

NOT_TUPLES = [None, True, False, 0, 1, '', 'a', [], ['a'], {}, {'a': 'a'}, set(), {'a'}, b'a', object(), str]


def parts(person):
    return [person.start, person.carried, person.needs, person.shuns]


class PersonTest(unittest.TestCase):
    def test_defaults(self):
        self.assertEqual(parts(Person('hall')), ['hall', (), (), ()])

    def test_properties(self):
        person = Person('hall', carried=('iron', 'gold'), needs=('den', 'attic'), shuns=('vault', 'cellar'))
        self.assertEqual(parts(person), ['hall', ('iron', 'gold'), ('den', 'attic'), ('vault', 'cellar')])
        self.assertEqual(parts(Person('b', needs=('b', 'a'))), ['b', (), ('b', 'a'), ()])

    def test_each_keyword_alone(self):
        self.assertEqual(parts(Person('a', carried=('b',))), ['a', ('b',), (), ()])
        self.assertEqual(parts(Person('a', needs=('b',))), ['a', (), ('b',), ()])
        self.assertEqual(parts(Person('a', shuns=('b',))), ['a', (), (), ('b',)])

    def test_parameters_by_name(self):
        self.assertEqual(parts(Person(start='a')), ['a', (), (), ()])
        with self.assertRaises(TypeError):
            Person('a', ())

    def test_start_may_be_needed_or_shunned(self):
        self.assertEqual(Person('hall', needs=('hall',)).needs, ('hall',))
        self.assertEqual(Person('hall', shuns=('hall',)).shuns, ('hall',))

    def test_key_may_be_called_like_a_room(self):
        self.assertEqual(parts(Person('a', carried=('a', 'b'), needs=('a',), shuns=('b',))),
                         ['a', ('a', 'b'), ('a',), ('b',)])

    def test_equality(self):
        self.assertTrue(Person('a') == Person('a', carried=(), needs=(), shuns=()))
        self.assertFalse(Person('a') != Person('a'))
        one = Person('a', carried=('i', 'j'), needs=('b', 'c'), shuns=('d', 'e'))
        self.assertTrue(one == Person('a', carried=('i', 'j'), needs=('b', 'c'), shuns=('d', 'e')))
        others = [Person('b', carried=('i', 'j'), needs=('b', 'c'), shuns=('d', 'e')),
                  Person('a', carried=('i',), needs=('b', 'c'), shuns=('d', 'e')),
                  Person('a', carried=('j', 'i'), needs=('b', 'c'), shuns=('d', 'e')),
                  Person('a', carried=('i', 'j'), needs=('c', 'b'), shuns=('d', 'e')),
                  Person('a', carried=('i', 'j'), needs=('b',), shuns=('d', 'e')),
                  Person('a', carried=('i', 'j'), needs=('b', 'c'), shuns=('e', 'd')),
                  Person('a', carried=('i', 'j'), needs=('b', 'c'), shuns=())]
        for other in others + [None, True, 'a', ('a', ('i', 'j'), ('b', 'c'), ('d', 'e'))]:
            with self.subTest(other=other):
                self.assertFalse(one == other)
                self.assertTrue(one != other)

    def test_right_names(self):
        for name in RIGHT_NAMES:
            self.assertEqual(parts(Person(name, carried=(name,), needs=(name,))), [name, (name,), (name,), ()])
            self.assertEqual(Person(name, shuns=(name,)).shuns, (name,))

    def test_wrong_start(self):
        for wrong in WRONG_NAMES:
            with self.subTest(wrong=wrong), self.assertRaises(BadPerson):
                Person(wrong)

    def test_wrong_names(self):
        for keyword in ['carried', 'needs', 'shuns']:
            for wrong in WRONG_NAMES:
                with self.subTest(keyword=keyword, wrong=wrong):
                    for names in [(wrong,), ('a', wrong), (wrong, 'a')]:
                        with self.assertRaises(BadPerson):
                            Person('hall', **{keyword: names})

    def test_not_tuples(self):
        for keyword in ['carried', 'needs', 'shuns']:
            for wrong in NOT_TUPLES:
                with self.subTest(keyword=keyword, wrong=wrong), self.assertRaises(BadPerson):
                    Person('hall', **{keyword: wrong})

    def test_names_twice(self):
        for keyword in ['carried', 'needs', 'shuns']:
            for names in [('a', 'a'), ('a', 'b', 'a'), ('b', 'a', 'a')]:
                with self.subTest(keyword=keyword), self.assertRaises(BadPerson):
                    Person('hall', **{keyword: names})

    def test_needed_and_shunned(self):
        for needs, shuns in [(('a',), ('a',)), (('a', 'b'), ('c', 'b')), (('hall',), ('hall',))]:
            with self.assertRaises(BadPerson):
                Person('hall', needs=needs, shuns=shuns)

    def test_several_wrong(self):
        for start in [None, [], 'hall']:
            for wrong in [None, [], ('a', 'a'), ([],)]:
                with self.assertRaises(BadPerson):
                    Person(start, carried=wrong, needs=wrong, shuns=wrong)
