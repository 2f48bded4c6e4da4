"""Doors, people and buildings, and how far people get in them."""

from lockdoors.checks import all_in, are_names, is_name
from lockdoors.errors import BadBuilding, BadDoor, BadLocks, BadName, BadPerson, BadTrail
from lockdoors.locks import Locks

FEWEST_ROOMS = 2
MOST_ROOMS = 6
MOST_KEYS = 3
MOST_DOORS = 8
MOST_PEOPLE = 4
HIGHEST_COST = 9


def is_cost(value):
    """Whether the value is a cost of locking a door; True counts as no integer."""
    return isinstance(value, int) and not isinstance(value, bool) and 1 <= value <= HIGHEST_COST


class Door:
    """A door from one room to another, that never changes."""

    def __init__(self, start, end, *, key=None, both=False, cost=1):
        if not are_names((start, end)):
            raise BadDoor("a door leads from a room to a different one")
        if key is not None and not is_name(key):
            raise BadDoor("the key is neither None nor a name")
        if not isinstance(both, bool):
            raise BadDoor("both is not a boolean")
        if not is_cost(cost):
            raise BadDoor("not a cost from 1 to 9")
        self.kept_start = start
        self.kept_end = end
        self.kept_key = key
        self.kept_both = both
        self.kept_cost = cost

    @property
    def start(self):
        """The room from which it leads."""
        return self.kept_start

    @property
    def end(self):
        """The room to which it leads."""
        return self.kept_end

    @property
    def key(self):
        """The key that it needs, or None."""
        return self.kept_key

    @property
    def both(self):
        """Whether it leads in both directions."""
        return self.kept_both

    @property
    def cost(self):
        """What locking it costs."""
        return self.kept_cost

    def ways(self):
        """The pairs of rooms from which and to which it leads."""
        yield (self.kept_start, self.kept_end)
        if self.kept_both:
            yield (self.kept_end, self.kept_start)

    def __eq__(self, other):
        return (isinstance(other, Door) and self.kept_start == other.kept_start and self.kept_end == other.kept_end
                and self.kept_key == other.kept_key and self.kept_both == other.kept_both
                and self.kept_cost == other.kept_cost)


class Person:
    """Where somebody starts, with which keys, and which rooms they need or must not reach; never changes."""

    def __init__(self, start, *, carried=(), needs=(), shuns=()):
        if not is_name(start):
            raise BadPerson("the start is not a name")
        if not (are_names(carried) and are_names(needs) and are_names(shuns)):
            raise BadPerson("not three tuples of different names")
        if any([room in shuns for room in needs]):
            raise BadPerson("a room is both needed and shunned")
        self.kept_start = start
        self.kept_carried = carried
        self.kept_needs = needs
        self.kept_shuns = shuns

    @property
    def start(self):
        """The room in which the person starts."""
        return self.kept_start

    @property
    def carried(self):
        """The tuple of the keys that the person has from the beginning."""
        return self.kept_carried

    @property
    def needs(self):
        """The tuple of the rooms that the person needs."""
        return self.kept_needs

    @property
    def shuns(self):
        """The tuple of the rooms that the person must not reach."""
        return self.kept_shuns

    def __eq__(self, other):
        return (isinstance(other, Person) and self.kept_start == other.kept_start
                and self.kept_carried == other.kept_carried and self.kept_needs == other.kept_needs
                and self.kept_shuns == other.kept_shuns)


def is_table(value, fewest, most):
    """Whether the value is a dict of such a size whose keys are names."""
    return isinstance(value, dict) and fewest <= len(value) <= most and all([is_name(name) for name in value])


def are_rooms(rooms):
    """Whether the rooms are as a building has them."""
    return are_names(rooms) and FEWEST_ROOMS <= len(rooms) <= MOST_ROOMS


def is_key(name, room, rooms):
    """Whether a key of this name can lie in this room; no key has the name of a room."""
    return name not in rooms and is_name(room) and room in rooms


def are_keys(keys, rooms):
    """Whether the keys are as a building with these rooms has them."""
    return is_table(keys, 0, MOST_KEYS) and all([is_key(name, keys[name], rooms) for name in keys])


def fits_door(door, rooms, keys):
    """Whether the value is a Door with rooms and a key of these."""
    return (isinstance(door, Door) and all_in((door.start, door.end), rooms)
            and (door.key is None or door.key in keys))


def fits_person(person, rooms, keys):
    """Whether the value is a Person with rooms and keys of these."""
    return (isinstance(person, Person) and person.start in rooms and all_in(person.carried, keys)
            and all_in(person.needs, rooms) and all_in(person.shuns, rooms))


def are_doors(doors, rooms, keys):
    """Whether the doors are as a building with these rooms and keys has them."""
    return is_table(doors, 1, MOST_DOORS) and all([fits_door(doors[name], rooms, keys) for name in doors])


def are_people(people, rooms, keys):
    """Whether the people are as a building with these rooms and keys has them."""
    return is_table(people, 1, MOST_PEOPLE) and all([fits_person(people[name], rooms, keys) for name in people])


class Building:
    """Rooms, keys that lie in them, doors and people; never changes."""

    def __init__(self, rooms, keys, doors, people):
        if not are_rooms(rooms):
            raise BadBuilding("ROOMS")
        if not are_keys(keys, rooms):
            raise BadBuilding("KEYS")
        if not are_doors(doors, rooms, keys):
            raise BadBuilding("DOORS")
        if not are_people(people, rooms, keys):
            raise BadBuilding("PEOPLE")
        self.kept_rooms = rooms
        self.kept_keys = {name: keys[name] for name in sorted(keys)}
        # The names are kept apart because dicts are equal whatever their orders are, but buildings are not.
        self.door_names = tuple(doors)
        self.kept_doors = dict(doors)
        self.person_names = tuple(people)
        self.kept_people = dict(people)

    @property
    def rooms(self):
        """The tuple of the rooms."""
        return self.kept_rooms

    @property
    def key_rooms(self):
        """The dict from the keys, in alphabetical order, to the rooms in which they lie."""
        return dict(self.kept_keys)

    @property
    def doors(self):
        """The list of the names of the doors, in order."""
        return list(self.door_names)

    @property
    def people(self):
        """The list of the names of the people, in order."""
        return list(self.person_names)

    def door(self, name):
        """The Door of this name."""
        if not is_name(name) or name not in self.kept_doors:
            raise BadName("not a name of a door")
        return self.kept_doors[name]

    def person(self, name):
        """The Person of this name."""
        if not is_name(name) or name not in self.kept_people:
            raise BadName("not a name of a person")
        return self.kept_people[name]

    def reach(self, name, locks):
        """The list of the rooms in the reach of a person, in the order of the building."""
        person = self.person(name)
        check_locks(self, locks)
        rooms = [person.start]
        beyond = rooms_beyond(self, person, locks, rooms)
        while beyond:
            rooms = rooms + beyond
            # All doors are tried again, since a new room may hold the key of a door passed by before.
            beyond = rooms_beyond(self, person, locks, rooms)
        return [room for room in self.kept_rooms if room in rooms]

    def price(self, locks):
        """What locking a set of doors costs."""
        check_locks(self, locks)
        return sum([self.kept_doors[name].cost for name in locks.names])

    def is_right(self, locks):
        """Whether everybody reaches what they need, and nobody what they must not reach."""
        check_locks(self, locks)
        return all([suits(self.kept_people[name], self.reach(name, locks)) for name in self.person_names])

    def __eq__(self, other):
        return (isinstance(other, Building) and self.kept_rooms == other.kept_rooms
                and self.kept_keys == other.kept_keys
                and self.door_names == other.door_names and self.kept_doors == other.kept_doors
                and self.person_names == other.person_names and self.kept_people == other.kept_people)


def check_building(building):
    """Raise BadBuilding unless the value is a Building."""
    if not isinstance(building, Building):
        raise BadBuilding(None)


def check_locks(building, locks):
    """Raise BadLocks unless the value is a Locks with doors of the building only."""
    if not isinstance(locks, Locks):
        raise BadLocks("not a Locks")
    if not all_in(locks.names, building.doors):
        raise BadLocks("not only doors of the building")


def are_doors_of(building, names):
    """Whether the value is a tuple of names of doors of the building, also with one more than once."""
    return isinstance(names, tuple) and all([is_name(name) and name in building.doors for name in names])


def check_trail(building, trail):
    """Raise BadTrail unless the value is a tuple of names of doors of the building."""
    if not are_doors_of(building, trail):
        raise BadTrail("not a tuple of names of doors of the building")


def keys_held(building, person, rooms):
    """The list of the keys that a person has who has been in these rooms."""
    places = building.key_rooms
    return list(person.carried) + [key for key in places if places[key] in rooms]


def lets_through(building, person, locks, rooms, name):
    """Whether a door is not locked, and a person who has been in these rooms has its key."""
    door = building.door(name)
    return name not in locks and (door.key is None or door.key in keys_held(building, person, rooms))


def room_added(building, person, locks, rooms, name):
    """The further room to which a door leads from one of these rooms, or None if the person gets to none by it."""
    if lets_through(building, person, locks, rooms, name):
        for start, end in building.door(name).ways():
            if start in rooms and end not in rooms:
                return end
    return None


def rooms_beyond(building, person, locks, rooms):
    """The list of the further rooms to which doors lead from these rooms, as far as the person gets through."""
    added = [room_added(building, person, locks, rooms, name) for name in building.doors]
    return [room for room in added if room is not None]


def suits(person, rooms):
    """Whether a reach of these rooms has all that the person needs, and nothing that the person must not reach."""
    return all_in(person.needs, rooms) and not any([room in rooms for room in person.shuns])
