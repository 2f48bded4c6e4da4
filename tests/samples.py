"""Values that several tests use."""

from unittest.mock import ANY

from lockdoors.locks import Locks
from lockdoors.plans import Building, Door, Person

LETTERS = 'abcdefghijklmnopqrstuvwxyz'

RIGHT_NAMES = ['a', 'z', 'hall', 'abcdefgh', 'stuvwxyz'] + list(LETTERS)

WRONG_STRINGS = [
    '', 'abcdefghi', LETTERS, 'Hall', 'halL', 'HALL', 'ha ll', ' hall', 'hall ', 'hall\n', '\n', 'h4ll', '1',
    'h_ll', 'h-ll', 'h`ll', 'h{ll', 'h\u00e4ll', '\u00df', '\u00aa', '\u0430', '\uff41', 'hall\x00',
]

WRONG_NAMES = WRONG_STRINGS + [
    0, 1, -1, True, False, None, [], ['hall'], (), ('hall',), {}, {'hall': 'hall'}, {'hall'}, b'hall', object(),
    str, Locks('hall'), Door('hall', 'den'), Person('hall'), ANY,
]

NOT_LOCKS = [None, True, False, 0, 1, 'front', '', [], ['front'], (), ('front',), {}, {'front'}, set(), b'front',
             object(), Locks, Door('hall', 'den'), Person('hall'), ANY]

ROOMS = ('hall', 'den', 'attic', 'vault')
KEYS = {'iron': 'attic'}


def doors():
    return {
        'front': Door('hall', 'den'),
        'cellar': Door('den', 'vault', key='iron', cost=3),
        'stairs': Door('hall', 'attic', both=True),
    }


def people():
    return {'ann': Person('hall', shuns=('vault',)), 'bob': Person('attic', needs=('den',))}


def house():
    return Building(ROOMS, dict(KEYS), doors(), people())


NOT_BUILDINGS = [None, True, False, 0, 1, -5, '', 'house', [], ['hall'], (), ('hall', 'den'), {}, {'hall': 'den'},
                 set(), {'hall'}, b'', object(), Building, Locks('front'), Locks(), Door('hall', 'den'),
                 Person('hall'), ANY]

# Neither one of these is a Locks with doors of the house only.
WRONG_LOCKS = NOT_LOCKS + [Locks('gate'), Locks('front', 'gate'), Locks('zoo', 'stairs'), Locks('hall'), Locks('ann')]

# None of these is the name of a person of the house.
WRONG_PEOPLE = WRONG_NAMES + ['eve', 'front', 'iron', 'hall', 'an', 'anna']

# None of these is a tuple of names of doors of the house.
WRONG_TRAILS = [None, True, False, 0, 1, '', 'front', [], ['front'], ['front', 'stairs'], {}, {'front': 'front'},
                set(), {'front'}, b'', b'front', object(), tuple, Locks('front'), Locks(), Door('hall', 'den'), ANY,
                ('gate',), ('front', 'gate'), ('gate', 'front'), ('hall',), ('iron',), ('ann',), (('front',),),
                ('front', ()), (['front'],)]
WRONG_TRAILS += [(wrong,) for wrong in WRONG_NAMES] + [('front', wrong) for wrong in WRONG_NAMES]
