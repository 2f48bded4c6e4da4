"""Keeping one person out of one room, and what changes between two sets of locked doors."""

from lockdoors.checks import is_name
from lockdoors.errors import BadRoom
from lockdoors.locks import Locks
from lockdoors.plans import check_building, check_locks
from lockdoors.reasons import rooms_of, sets_by_price, trail_into


def check_aim(building, name, room):
    """Raise BadBuilding, BadName or BadRoom unless the person can be kept out of the room."""
    check_building(building)
    start = building.person(name).start
    if not is_name(room) or room not in building.rooms:
        raise BadRoom("not a room of the building")
    if room == start:
        raise BadRoom("the person starts in this room")


def stops_all(locks, trails):
    """Whether a set contains a door of each of these trails."""
    return all([any([door in locks for door in trail]) for trail in trails])


def adds_room(building, name, trail, room):
    """Whether a tuple is a trail of a person, with no locked doors, that adds a room."""
    rooms = rooms_of(building, building.person(name), Locks(), trail)
    return rooms is not None and room in rooms


def keep_out(building, name, room):
    """A KeepOut with the cheapest set that keeps a person out of a room."""
    check_aim(building, name, room)
    trails = []
    for locks in sets_by_price(building):
        if stops_all(locks, trails):
            trail = trail_into(building, name, locks, (room,))
            if trail is None:
                # This always happens, at the latest with all doors locked.
                return KeepOut(locks, trails)
            trails.append(trail)


class KeepOut:
    """A cheapest set that keeps a person out of a room, and trails that no cheaper set stops."""

    def __init__(self, locks, trails):
        self.locks = locks
        self.trails = list(trails)

    def __eq__(self, other):
        return isinstance(other, KeepOut) and self.locks == other.locks and self.trails == other.trails

    def shows(self, building, name, room):
        """Whether the set keeps the person out, and each set that stops all trails costs at least as much."""
        check_aim(building, name, room)
        if room in building.reach(name, self.locks):
            return False
        price = building.price(self.locks)
        cheaper = [locks for locks in sets_by_price(building) if building.price(locks) < price]
        return (all([adds_room(building, name, trail, room) for trail in self.trails])
                and not any([stops_all(locks, self.trails) for locks in cheaper]))


def changes_of(building, name, old, new):
    """The list of the changes for one person, by the rooms in order."""
    before = building.reach(name, old)
    after = building.reach(name, new)
    return [(name, room, "gained" if room in after else "lost") for room in building.rooms
            if (room in before) != (room in after)]


def changes(building, old, new):
    """The list of all changes from an old set to a new one, by the people, then by the rooms, in order."""
    check_building(building)
    check_locks(building, old)
    check_locks(building, new)
    return [change for name in building.people for change in changes_of(building, name, old, new)]
