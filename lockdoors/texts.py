"""Buildings as text, and back."""

from lockdoors.checks import are_names, is_name
from lockdoors.errors import BadBuilding, BadDoor, BadName, BadPerson, BadText
from lockdoors.plans import Building, Door, Person, check_building

GROUPS = ("has", "needs", "shuns")
COSTS = ("1", "2", "3", "4", "5", "6", "7", "8", "9")


def group_words(word, names):
    """The words of one group of names in the line of a person, none if there are no names."""
    if not names:
        return []
    return [word] + list(names)


def door_line(name, door):
    """The line of a door, without its line feed."""
    words = ["door", name, door.start, door.end, str(door.cost)]
    if door.both:
        words = words + ["both"]
    if door.key is not None:
        words = words + ["key", door.key]
    return " ".join(words)


def person_line(name, person):
    """The line of a person, without its line feed."""
    names = [name, person.start] + list(person.carried) + list(person.needs) + list(person.shuns)
    if any([word in GROUPS for word in names]):
        raise BadName("a name in the line of a person is has, needs or shuns")
    words = (["person", name, person.start] + group_words("has", person.carried) + group_words("needs", person.needs)
             + group_words("shuns", person.shuns))
    return " ".join(words)


def building_text(building):
    """The text of a building."""
    check_building(building)
    places = building.key_rooms
    lines = [" ".join(["rooms"] + list(building.rooms))]
    lines = lines + [f"key {name} {places[name]}" for name in places]
    lines = lines + [door_line(name, building.door(name)) for name in building.doors]
    lines = lines + [person_line(name, building.person(name)) for name in building.people]
    return "".join([line + "\n" for line in lines])


def read_rooms(words):
    """The tuple of the rooms in the words behind `rooms`, or None."""
    rooms = tuple(words)
    if rooms == () or not are_names(rooms):
        return None
    return rooms


def read_key(words):
    """The pair of a key and its room in the words behind `key`, or None."""
    if len(words) != 2 or not all([is_name(word) for word in words]):
        return None
    return (words[0], words[1])


def read_door(words):
    """The pair of a name and a Door in the words behind `door`, or None."""
    if len(words) < 4 or not is_name(words[0]) or words[3] not in COSTS:
        return None
    both = words[4:5] == ["both"]
    rest = words[5:] if both else words[4:]
    if rest != [] and (len(rest) != 2 or rest[0] != "key"):
        return None
    key = rest[1] if rest else None
    try:
        return (words[0], Door(words[1], words[2], key=key, both=both, cost=int(words[3])))
    except BadDoor:
        return None


def first_names(words):
    """The tuple of the words before the first one that begins a group."""
    names = ()
    for word in words:
        if word in GROUPS:
            return names
        names = names + (word,)
    return names


def read_groups(words):
    """The list of the names behind `has`, `needs` and `shuns`, a tuple for each, or None if the form is another."""
    groups = []
    rest = words
    for group in GROUPS:
        names = ()
        if rest[:1] == [group]:
            names = first_names(rest[1:])
            if names == ():
                return None
            rest = rest[1 + len(names):]
        groups.append(names)
    return groups if rest == [] else None


def read_person(words):
    """The pair of a name and a Person in the words behind `person`, or None."""
    groups = read_groups(words[2:])
    if groups is None or len(first_names(words[:2])) != 2 or not is_name(words[0]):
        return None
    carried, needs, shuns = groups
    try:
        return (words[0], Person(words[1], carried=carried, needs=needs, shuns=shuns))
    except BadPerson:
        return None


READERS = {"rooms": read_rooms, "key": read_key, "door": read_door, "person": read_person}


def can_stand(word, earlier):
    """Whether a line that begins with a word can stand behind lines that begin with the earlier words."""
    if (word == "rooms") != (earlier == []):
        return False
    if word == "key":
        return "door" not in earlier
    if word == "door":
        return "person" not in earlier
    return True


def read_line(line, earlier):
    """The first word of a line and what the line says, or None if the line is not accepted."""
    words = line.split(" ")
    if words[0] not in READERS or not can_stand(words[0], earlier):
        return None
    reader = READERS[words[0]]
    said = reader(words[1:])
    if said is None:
        return None
    return (words[0], said)


def read_lines(lines):
    """The list of the pairs of first words and what the lines say."""
    entries = []
    for row, line in enumerate(lines):
        entry = read_line(line, [word for word, said in entries])
        if entry is None:
            raise BadText(row)
        entries.append(entry)
    return entries


def table_of(entries, first):
    """The dict from names to what the lines with this first word say of them."""
    pairs = [said for word, said in entries if word == first]
    table = {name: worth for name, worth in pairs}
    if len(table) != len(pairs):
        raise BadText(0)
    return table


def read_building(text):
    """The building that a text describes."""
    if not isinstance(text, str):
        raise BadText(0)
    pieces = text.split("\n")
    entries = read_lines(pieces[:-1])
    if pieces[-1] != "" or not any([word == "person" for word, said in entries]):
        raise BadText(len(entries))
    keys, doors, people = table_of(entries, "key"), table_of(entries, "door"), table_of(entries, "person")
    try:
        return Building(entries[0][1], keys, doors, people)
    except BadBuilding:
        raise BadText(0) from None
