"""Chains: whole folders and what changed since, how much is read to give a day back, and which days to keep whole."""

from keepwright.errors import BadRule, BadSize, NoSuch
from keepwright.folders import changed, changes_to, check_folder


class Chain:
    """Rows in turn: ("whole", folder) or ("since", place, changes), what changed since a row ahead."""

    def __init__(self):
        self.rows = []

    def keep(self, table, since=None):
        """Keep a folder whole, or what changed since a row; return its place; BadPath, NoSuch."""
        folder = check_folder(table)
        if since is None:
            self.rows.append(('whole', folder))
        else:
            self.rows.append(('since', since, changes_to(self.give(since), folder)))
        return len(self.rows) - 1

    def give(self, place):
        """Return the folder of a row; NoSuch."""
        found = {}
        for at in self.way(place):
            found = changed(found, self.changes_at(at))
        return found

    def check_place(self, place):
        """Return the place of a row; NoSuch."""
        if not 0 <= place < len(self.rows):
            raise NoSuch(f"no row: {place}")
        return place

    def changes_at(self, place):
        """Return the (path, text) rows that a row holds; NoSuch."""
        row = self.rows[self.check_place(place)]
        return tuple(row[1].items()) if row[0] == 'whole' else row[2]

    def way(self, place):
        """Return the places to be read for a row, the whole one first; NoSuch."""
        places = [self.check_place(place)]
        while self.rows[places[-1]][0] == 'since':
            places.append(self.rows[places[-1]][1])
        return tuple(places[::-1])

    def weight(self, place):
        """Return how many signs a row takes: its texts, and its paths; NoSuch."""
        return signs_in(self.changes_at(place))

    def to_read(self, place):
        """Return how many signs are read to give a row back; NoSuch."""
        return sum(self.weight(at) for at in self.way(place))

    def to_keep(self):
        """Return how many signs all rows take."""
        return sum(self.weight(place) for place in range(len(self.rows)))

    def hangs(self, place):
        """Return the places of rows that need a row, itself too, in order; NoSuch."""
        return tuple(at for at in range(self.check_place(place), len(self.rows)) if place in self.way(at))


def signs_in(changes):
    """Return how many signs the paths and the texts of changes have, a path left out its own alone."""
    return sum(len(path) + (len(text) if text is not None else 0) for path, text in changes)


def levels(days):
    """Return the row that each goes by where levels are told: None for nought, else the last of a lower; BadRule."""
    found = []
    for place, level in enumerate(days):
        if level < 0 or (place == 0 and level != 0):
            raise BadRule(f"no level: {level}")
        lower = [at for at in range(place) if days[at] < level]
        found.append(lower[-1] if lower != [] else None)
    return tuple(found)


def kept_by(folders, days):
    """Return the chain of folders by levels; BadPath, BadRule."""
    if len(folders) != len(days):
        raise BadRule(f"{len(days)} levels for {len(folders)} folders")
    chain = Chain()
    for table, since in zip(folders, levels(days)):
        chain.keep(table, since)
    return chain


def best_wholes(folders, most):
    """Return (fewest signs to keep folders, whether each is whole, else since the one ahead) with a bound; BadSize.

    None takes more than so many signs to read; of the marks that keep as few, the first in order are told.
    """
    wholes = [signs_in(changes_to({}, table)) for table in folders]
    sinces = [signs_in(changes_to(one, other)) for one, other in zip(folders, folders[1:])]
    # What is best from each place on, where that one is whole; behind the last nothing is left to keep.
    best = [None] * len(folders) + [(0, ())]
    for place in reversed(range(len(folders))):
        best[place] = best_from(place, wholes[place], sinces, most, best)
    if best[0] is None:
        raise BadSize(f"not to be read with {most} signs")
    return best[0]


def best_from(place, whole, sinces, most, best):
    """Return (fewest signs, marks) from a whole row on, by what is best from each later place on; None for none."""
    found = None
    signs = whole
    for end in range(place + 1, len(best)):
        if signs > most:
            break
        # Of like costs the later next whole one is taken, as its marks are ahead in order.
        if best[end] is not None and (found is None or signs + best[end][0] <= found[0]):
            found = (signs + best[end][0], (True,) + (False,) * (end - place - 1) + best[end][1])
        if end < len(best) - 1:
            signs += sinces[end - 1]
    return found


def all_marks(count):
    """Return all rows of marks whether each is whole, the first always, in order."""
    rows = [()]
    for place in range(count):
        marks = (False, True) if place > 0 else (True,)
        rows = [row + (mark,) for row in rows for mark in marks]
    return rows
