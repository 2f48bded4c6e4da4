"""Walks through the doors of a building."""

from lockdoors.checks import is_name
from lockdoors.errors import BadName, NothingPassed, NoWay
from lockdoors.plans import check_building, check_locks, check_trail, keys_held, lets_through


def room_behind(door, room):
    """The room to which a door leads from a room, or None if it does not lead from there."""
    for start, end in door.ways():
        if start == room:
            return end
    return None


class Walk:
    """The steps of a person through doors, from the room in which the person starts."""

    def __init__(self, building, name, locks):
        check_building(building)
        person = building.person(name)
        check_locks(building, locks)
        self.kept_building = building
        self.kept_person = person
        self.kept_locks = locks
        self.kept_passed = []
        # All rooms in which the person has been, so that a step taken back takes its room and keys along.
        self.kept_stops = [person.start]

    @property
    def room(self):
        """The room in which the person is."""
        return self.kept_stops[-1]

    @property
    def passed(self):
        """The list of the names of the doors, in the order in which they were passed."""
        return list(self.kept_passed)

    @property
    def visited(self):
        """The list of the rooms visited so far, in the order of the building."""
        return [room for room in self.kept_building.rooms if room in self.kept_stops]

    def next_room(self, name):
        """The room behind a door of the building, or None if the person cannot pass it now."""
        if not lets_through(self.kept_building, self.kept_person, self.kept_locks, self.kept_stops, name):
            return None
        return room_behind(self.kept_building.door(name), self.room)

    def go(self, name):
        """Pass a door, and return the room behind it."""
        room = self.next_room(name)
        if room is None:
            raise NoWay("the door cannot be passed now")
        self.kept_passed.append(name)
        self.kept_stops.append(room)
        return room

    def back(self):
        """Take back the last step, and return the name of its door."""
        if self.kept_passed == []:
            raise NothingPassed("there is no step to take back")
        self.kept_stops.pop()
        return self.kept_passed.pop()

    def ahead(self):
        """The names of the doors that can be passed when the first one is requested."""
        # The list is made before the first name is yielded, so that later steps do not change it.
        names = [name for name in self.kept_building.doors if self.next_room(name) is not None]
        for name in names:
            yield name

    def __contains__(self, key):
        if not is_name(key) or key not in self.kept_building.key_rooms:
            raise BadName("not a key of the building")
        return key in keys_held(self.kept_building, self.kept_person, self.kept_stops)

    def __len__(self):
        return len(self.kept_passed)

    def __bool__(self):
        return self.kept_stops[-1] in self.kept_person.needs

    @classmethod
    def along(cls, building, name, locks, doors):
        """A walk through doors, one after another."""
        walk = cls(building, name, locks)
        check_trail(building, doors)
        for door in doors:
            walk.go(door)
        return walk
