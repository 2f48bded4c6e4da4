"""Trails, doubts, and the cheapest set of doors to lock."""

from lockdoors.checks import all_in, is_name
from lockdoors.errors import BadDoubt
from lockdoors.locks import Locks
from lockdoors.plans import are_doors_of, check_building, check_locks, check_trail, room_added, rooms_beyond

THROUGH = "through"
SHUT = "shut"


def rooms_of(building, person, locks, trail):
    """The list of the rooms of a trail, in the order in which it adds them, or None if it is not a trail."""
    rooms = [person.start]
    for name in trail:
        room = room_added(building, person, locks, rooms, name)
        if room is None:
            return None
        rooms = rooms + [room]
    return rooms


def is_trail(building, name, locks, trail):
    """Whether a tuple is a trail of a person, with a set of locked doors."""
    check_building(building)
    person = building.person(name)
    check_locks(building, locks)
    check_trail(building, trail)
    return rooms_of(building, person, locks, trail) is not None


def is_complete(building, name, locks, trail):
    """Whether a tuple is a trail of a person to which no further door could be added."""
    if not is_trail(building, name, locks, trail):
        return False
    person = building.person(name)
    return rooms_beyond(building, person, locks, rooms_of(building, person, locks, trail)) == []


def first_step(building, person, locks, rooms):
    """The first door that can follow a trail with these rooms, and the room that it adds, or None."""
    for name in building.doors:
        room = room_added(building, person, locks, rooms, name)
        if room is not None:
            return (name, room)
    return None


def trail_of(building, name, locks):
    """The complete trail whose doors are each the first one that can follow."""
    check_building(building)
    person = building.person(name)
    check_locks(building, locks)
    trail = ()
    rooms = [person.start]
    step = first_step(building, person, locks, rooms)
    while step is not None:
        door, room = step
        trail = trail + (door,)
        rooms = rooms + [room]
        # All doors are tried again, since the new room may hold the key of a door passed over before.
        step = first_step(building, person, locks, rooms)
    return trail


def trail_into(building, name, locks, wanted):
    """A trail of a person that ends with the first wanted room, or None if the person reaches none of them."""
    trail = trail_of(building, name, locks)
    for at, room in enumerate(rooms_of(building, building.person(name), locks, trail)):
        if room in wanted:
            # The trail is cut because a set of locks that stops it must then contain one of fewer doors.
            return trail[:at]
    return None


def has_doubt_form(building, doubt):
    """Whether the value is a tuple in one of the two forms of a doubt, be it a doubt or not."""
    # A value that is not a string may claim to be equal to one.
    return (isinstance(doubt, tuple) and len(doubt) == 3 and isinstance(doubt[0], str) and doubt[0] in (THROUGH, SHUT)
            and is_name(doubt[1]) and doubt[1] in building.people and are_doors_of(building, doubt[2]))


def check_doubt(building, doubt):
    """Raise BadDoubt unless the value is a tuple in one of the two forms of a doubt."""
    if not has_doubt_form(building, doubt):
        raise BadDoubt("not a tuple in one of the two forms of a doubt")


def leads_to_shunned(building, person, trail):
    """Whether a tuple is a trail, with no locked doors, with a room that the person must not reach."""
    rooms = rooms_of(building, person, Locks(), trail)
    return rooms is not None and any([room in person.shuns for room in rooms])


def shuts_out(building, name, doors):
    """Whether these are different doors in order that, if locked, shut a person out of a room that they need."""
    if list(doors) != [door for door in building.doors if door in doors]:
        return False
    return not all_in(building.person(name).needs, building.reach(name, Locks(*doors)))


def is_doubt(building, doubt):
    """Whether a tuple is a doubt."""
    check_building(building)
    check_doubt(building, doubt)
    form, name, doors = doubt
    if form == THROUGH:
        return leads_to_shunned(building, building.person(name), doors)
    return shuts_out(building, name, doors)


def strikes(doubt, locks):
    """Whether a tuple, if it is a doubt, rules out a set."""
    form, name, doors = doubt
    if form == THROUGH:
        return not any([door in locks for door in doors])
    return all_in(doors, locks)


def rules_out(building, doubt, locks):
    """Whether a tuple is a doubt and rules out a set."""
    check_building(building)
    check_doubt(building, doubt)
    check_locks(building, locks)
    return is_doubt(building, doubt) and strikes(doubt, locks)


def is_struck(doubts, locks):
    """Whether one of these doubts rules out a set."""
    return any([strikes(doubt, locks) for doubt in doubts])


def locks_at(doors, indices):
    """The set of the doors at these indices."""
    names = [doors[at] for at in indices]
    return Locks(*names)


def sets_by_price(building):
    """The list of all sets of doors, the cheapest first; those that cost the same by the indices of their doors."""
    doors = building.doors
    choices = [()]
    for at in range(len(doors)):
        choices = choices + [indices + (at,) for indices in choices]
    found = [locks_at(doors, indices) for indices in sorted(choices)]
    # Sets that cost the same stay in the order that they have.
    return sorted(found, key=lambda locks: building.price(locks))


def doubt_about(building, locks):
    """A doubt that rules out a set, or None if the set is right."""
    for name in building.people:
        person = building.person(name)
        trail = trail_into(building, name, locks, person.shuns)
        if trail is not None:
            return (THROUGH, name, trail)
        if not all_in(person.needs, building.reach(name, locks)):
            return (SHUT, name, tuple([door for door in building.doors if door in locks]))
    return None


def cheapest(building):
    """A Locking with the cheapest right set, or a NoLocking if there is no right set."""
    check_building(building)
    doubts = []
    for locks in sets_by_price(building):
        if not is_struck(doubts, locks):
            doubt = doubt_about(building, locks)
            if doubt is None:
                trails = {name: trail_of(building, name, locks) for name in building.people}
                return Locking(locks, trails, doubts)
            doubts.append(doubt)
    return NoLocking(doubts)


def are_doubts(building, doubts):
    """Whether all these tuples are doubts."""
    return all([is_doubt(building, doubt) for doubt in doubts])


class Locking:
    """A cheapest right set, complete trails with it, and doubts that rule out each set that costs less."""

    def __init__(self, locks, trails, doubts):
        self.locks = locks
        self.trails = dict(trails)
        self.doubts = list(doubts)

    def __eq__(self, other):
        return (isinstance(other, Locking) and self.locks == other.locks and self.trails == other.trails
                and self.doubts == other.doubts)

    def shows(self, building):
        """Whether the set is right, the trails are complete, and the doubts rule out each set that costs less."""
        check_building(building)
        if not building.is_right(self.locks) or not are_doubts(building, self.doubts):
            return False
        price = building.price(self.locks)
        cheaper = [locks for locks in sets_by_price(building) if building.price(locks) < price]
        return (all([is_complete(building, name, self.locks, self.trails[name]) for name in building.people])
                and all([is_struck(self.doubts, locks) for locks in cheaper]))


class NoLocking:
    """Doubts that rule out each set, so that none is right."""

    def __init__(self, doubts):
        self.doubts = list(doubts)

    def __eq__(self, other):
        return isinstance(other, NoLocking) and self.doubts == other.doubts

    def shows(self, building):
        """Whether the doubts rule out each set."""
        check_building(building)
        return (are_doubts(building, self.doubts)
                and all([is_struck(self.doubts, locks) for locks in sets_by_price(building)]))
