"""Packs: pieces put in rooms of a size, as few rooms as can be, and rooms written anew when much in them is gone."""

from keepwright.errors import BadPaper, BadSize


def check_sizes(sizes, room):
    """Return a table of names to sizes, in order of names, each one at least and no more than a room; BadSize."""
    if room < 1 or any(not 1 <= size <= room for size in sizes.values()):
        raise BadSize(f"sizes that a room of {room} can't hold")
    return {name: sizes[name] for name in sorted(sizes)}


def in_turn(table):
    """Return the names of sizes, greater ones first, then in order of names."""
    return [name for size, name in sorted([(-table[name], name) for name in table])]


def first_fit(sizes, room):
    """Return rooms of names in order: greater ones first, then by names, go in the first with as much left; BadSize."""
    table = check_sizes(sizes, room)
    lots = []
    free = []
    for name in in_turn(table):
        good = [place for place, left in enumerate(free) if left >= table[name]]
        if good == []:
            good = [len(lots)]
            lots.append([])
            free.append(room)
        lots[good[0]].append(name)
        free[good[0]] -= table[name]
    return rooms_of(lots)


def rooms_of(lots):
    """Return rooms of lots of names, the names in each in order."""
    return tuple(tuple(sorted(lot)) for lot in lots)


def fewest(sizes, room):
    """Return the fewest rooms that names can be put in: first_fit's, or where fewer can be others; BadSize."""
    table = check_sizes(sizes, room)
    rooms = first_fit(table, room)
    for most in range(at_least(table, room), len(rooms)):
        found = packed(in_turn(table), table, (), room, most)
        if found is not None:
            return found
    return rooms


def signs_of(table, lot):
    """Return how many signs a lot of names has by a table of sizes."""
    return sum(table[name] for name in lot)


def at_least(sizes, room):
    """Return how many rooms there must be by the sum of sizes, and by those greater than half a room; BadSize."""
    table = check_sizes(sizes, room)
    great = [name for name in table if 2 * table[name] > room]
    # The sum by rooms is rounded up.
    return max(len(great), (signs_of(table, table) + room - 1) // room)


def packed(left, table, rooms, room, most):
    """Return rooms of all names left beside some rooms, no more than so many, None where it can't be."""
    if len(rooms) > most:
        return None
    fresh = min(most - len(rooms), len(left))
    free = [room - signs_of(table, lot) for lot in rooms] + [room] * fresh
    places = places_for([table[name] for name in left], free)
    if places is None:
        return None
    lots = [list(lot) for lot in rooms] + [[] for _ in range(fresh)]
    for name, place in zip(left, places):
        lots[place].append(name)
    return rooms_of([lot for place, lot in enumerate(lots) if place < len(rooms) or lot != []])


def places_for(sizes, free):
    """Return the places, the first found, at which sizes in turn go where so much is free, None for none."""
    left = list(free)
    places = []
    # What is left free, in order, tells whether the sizes still to come can be put in, whichever room has it. What was
    # met ahead led nowhere, or it wouldn't be met again.
    met = set()
    at = 0
    while len(places) < len(sizes):
        size = sizes[len(places)]
        if at == len(left):
            if places == []:
                return None
            at = places.pop()
            left[at] += sizes[len(places)]
            at += 1
            continue
        left[at] -= size
        state = (len(places), tuple(sorted(left)))
        if left[at] < 0 or state in met:
            left[at] += size
            at += 1
        else:
            met.add(state)
            places.append(at)
            at = 0
    return places


def check_rooms(sizes, room, rooms):
    """Return how many rooms there are where each name stands once and none is too full; BadPaper, BadSize."""
    table = check_sizes(sizes, room)
    if sorted([name for lot in rooms for name in lot]) != list(table) or any(len(lot) == 0 for lot in rooms):
        raise BadPaper("not each name once, or a bare room")
    if any(signs_of(table, lot) > room for lot in rooms):
        raise BadPaper("a room that is too full")
    return len(rooms)


def alive(sizes, rooms, needed):
    """Return the (signs needed, all signs) of each room."""
    known = set(needed)
    found = []
    for lot in rooms:
        stays = [name for name in lot if name in known]
        found.append((signs_of(sizes, stays), signs_of(sizes, lot)))
    return tuple(found)


def to_write(sizes, rooms, needed, part):
    """Return the places of rooms of which less than a (top, low) part is needed; BadSize for a part below nought."""
    top, low = part
    if top < 0 or low < 1:
        raise BadSize(f"no part: {top} of {low}")
    rows = alive(sizes, rooms, needed)
    return tuple([place for place, (signs, every) in enumerate(rows) if signs * low < top * every])


def written_anew(sizes, rooms, needed, part, room):
    """Return (rooms, signs written) where rooms little needed are left out, what is needed of them put in fresh ones.

    The fresh ones stand behind all; BadSize.
    """
    gone = to_write(sizes, rooms, needed, part)
    names = [name for place in gone for name in rooms[place] if name in needed]
    stays = tuple(tuple(lot) for place, lot in enumerate(rooms) if place not in gone)
    fresh = first_fit({name: sizes[name] for name in names}, room)
    return (stays + fresh, signs_of(sizes, names))


def place_of(rooms, name):
    """Return the place of the room that a name is in, None for none."""
    for place, lot in enumerate(rooms):
        if name in lot:
            return place
    return None


def rooms_read(rooms, names):
    """Return the places of rooms that have any of some names, in order."""
    return tuple(place for place, lot in enumerate(rooms) if any(name in names for name in lot))
