"""What the document defines, tried out word for word over all sets, and buildings to try it on."""

import itertools

from lockdoors.plans import Building, Door, Person

ROOM_NAMES = ['a', 'b', 'c', 'd', 'e', 'f']
KEY_NAMES = ['x', 'y', 'z']
DOOR_NAMES = ['da', 'db', 'dc', 'dd', 'de', 'df', 'dg', 'dh']
PERSON_NAMES = ['p', 'q', 'r', 's']


def ways_of(door):
    """The pairs of rooms from which and to which a door leads."""
    return [(door.start, door.end)] + ([(door.end, door.start)] if door.both else [])


def keys_in(building, person, rooms):
    """The set of the keys that a person has from the beginning, and that lie in these rooms."""
    return set(person.carried) | {key for key, room in building.key_rooms.items() if room in rooms}


def is_closed(building, person, locked, rooms):
    """Whether no door that is not locked leads out of the rooms, with the keys that lie in them."""
    keys = keys_in(building, person, rooms)
    for name in building.doors:
        door = building.door(name)
        if name not in locked and (door.key is None or door.key in keys):
            if any(start in rooms and end not in rooms for start, end in ways_of(door)):
                return False
    return True


def smallest_reach(building, name, locked):
    """The definition of [5], word for word: the smallest set of rooms that is closed."""
    person = building.person(name)
    for many in range(1, len(building.rooms) + 1):
        for rooms in itertools.combinations(building.rooms, many):
            if person.start in rooms and is_closed(building, person, locked, rooms):
                return list(rooms)


def reach_table(building):
    """The reaches of all people with all sets, by the name of a person and the tuple of locked doors in order."""
    return {(name, locked): smallest_reach(building, name, locked)
            for name in building.people for locked in all_sets(building)}


def all_sets(building):
    """All sets of doors, as tuples of names in the order of the building."""
    many = len(building.doors)
    return [locked for size in range(many + 1) for locked in itertools.combinations(building.doors, size)]


def cost_of(building, locked):
    return sum(building.door(name).cost for name in locked)


def indices_of(building, locked):
    return sorted(building.doors.index(name) for name in locked)


def first_cheapest(building, good):
    """The first one, as in [8], of the sets with the least cost among the good ones; None if there is none."""
    return min(good, key=lambda locked: (cost_of(building, locked), indices_of(building, locked)), default=None)


def suits(person, rooms):
    return set(rooms) >= set(person.needs) and not set(rooms) & set(person.shuns)


def right_sets(building, table):
    """All right sets, by the definition of [5]."""
    return [locked for locked in all_sets(building)
            if all(suits(building.person(name), table[name, locked]) for name in building.people)]


def trail_rooms(building, name, locked, trail):
    """The rooms of a trail, as [6] adds them, or None if the tuple is not a trail."""
    person = building.person(name)
    rooms = [person.start]
    for at in trail:
        door = building.door(at)
        new = [end for start, end in ways_of(door) if start in rooms and end not in rooms]
        if at in locked or not new or not (door.key is None or door.key in keys_in(building, person, rooms)):
            return None
        rooms += new
    return rooms


def all_trails(building, name, locked):
    """All trails of a person."""
    found = [()]
    for trail in found:
        found += [trail + (door,) for door in building.doors
                  if trail_rooms(building, name, locked, trail + (door,)) is not None]
    return found


def some_names(source, names, most):
    return tuple(source.sample(names, source.randint(0, min(most, len(names)))))


def some_person(source, rooms, keys):
    wanted = some_names(source, rooms, 3)
    cut = source.randint(0, len(wanted))
    return Person(source.choice(rooms), carried=some_names(source, keys, 1), needs=wanted[:cut], shuns=wanted[cut:])


def some_building(source):
    """A building of any size."""
    rooms = source.sample(ROOM_NAMES, source.randint(2, 6))
    keys = KEY_NAMES[:source.randint(0, 3)]
    doors = {}
    for name in source.sample(DOOR_NAMES, source.randint(1, 8)):
        start, end = source.sample(rooms, 2)
        doors[name] = Door(start, end, key=source.choice([None] + keys), both=source.random() < 0.4,
                           cost=source.randint(1, 9))
    people = {name: some_person(source, rooms, keys) for name in PERSON_NAMES[:source.randint(1, 4)]}
    return Building(tuple(rooms), {key: source.choice(rooms) for key in keys}, doors, people)


def some_small_building(source, most_doors=5):
    """A building with few doors, of few costs, so that ties and cheap sets are frequent."""
    rooms = source.sample(ROOM_NAMES, source.randint(3, 5))
    keys = KEY_NAMES[:source.randint(0, 2)]
    doors = {}
    for name in source.sample(DOOR_NAMES, source.randint(2, most_doors)):
        start, end = source.sample(rooms, 2)
        doors[name] = Door(start, end, key=source.choice([None, None] + keys), both=source.random() < 0.4,
                           cost=source.choice([1, 1, 2, 3]))
    people = {}
    for name in PERSON_NAMES[:source.randint(1, 3)]:
        start, *others = source.sample(rooms, 3)
        needs = others[:source.randint(0, 1)]
        people[name] = Person(start, carried=some_names(source, keys, 1), needs=tuple(needs),
                              shuns=tuple(others[1:source.randint(1, 2)]))
    return Building(tuple(rooms), {key: source.choice(rooms) for key in keys}, doors, people)


def largest_building(source):
    """A building with all sizes at their upper bounds."""
    doors = {}
    for name in source.sample(DOOR_NAMES, 8):
        start, end = source.sample(ROOM_NAMES, 2)
        doors[name] = Door(start, end, key=source.choice([None, None, None] + KEY_NAMES), both=source.random() < 0.5,
                           cost=source.randint(1, 9))
    people = {}
    for name in PERSON_NAMES:
        start, one, other = source.sample(ROOM_NAMES, 3)
        people[name] = Person(start, carried=some_names(source, KEY_NAMES, 1),
                              needs=(one,) if source.random() < 0.3 else (),
                              shuns=(other,) if source.random() < 0.5 else ())
    return Building(tuple(source.sample(ROOM_NAMES, 6)), {key: source.choice(ROOM_NAMES) for key in KEY_NAMES}, doors,
                    people)
