"""Days: what a folder was at each time, kept as trees, given back whole, left out, and swept."""

from keepwright.errors import KeepFault, BadSize, NoSuch
from keepwright.stores import Store
from keepwright.trees import all_needs, get_folder, get_path, put_folder, unlike


class Days:
    """A store and a table of times, rising, to the names of trees."""

    def __init__(self):
        self.store = Store()
        self.times = {}

    def keep(self, time, table):
        """Keep a folder at a time later than all; return how many pieces are fresh; BadPath, BadSize."""
        if self.times != {} and time <= max(self.times):
            raise BadSize(f"not later than all: {time}")
        many = len(self.store.pieces)
        self.times[time] = put_folder(self.store, table)
        return len(self.store.pieces) - many

    def give(self, time):
        """Return the folder as it was last kept at a time or ahead of it; NoSuch, BadPiece."""
        return get_folder(self.store, self.times[self.last_at(time)])

    def last_at(self, time):
        """Return the last time kept at a time or ahead of it; NoSuch."""
        good = [kept for kept in self.times if kept <= time]
        if good == []:
            raise NoSuch(f"nothing kept at {time} or ahead of it")
        return max(good)

    def text_at(self, time, path):
        """Return the text at a path as it was last kept; NoSuch, BadPiece."""
        return get_path(self.store, self.times[self.last_at(time)], path)

    def forget(self, times):
        """Leave out times; NoSuch for one not there, and nothing changes."""
        for time in times:
            if time not in self.times:
                raise NoSuch(f"no such time: {time}")
        for time in sorted(set(times)):
            del self.times[time]

    def needed(self):
        """Return all names that kept times need, in order; NoSuch, BadPiece."""
        return all_needs(self.store, [self.times[time] for time in sorted(self.times)])

    def sweep(self):
        """Take out all pieces that no kept time needs; return their names, in order; NoSuch, BadPiece."""
        stays = set(self.needed())
        gone = [name for name in self.store.names() if name not in stays]
        for name in gone:
            self.store.drop(name)
        return tuple(gone)

    def when(self, path):
        """Return the (time, text or None) at which a path's text came, changed or went, in order; NoSuch, BadPiece."""
        rows = []
        last = None
        for time in sorted(self.times):
            text = self.give(time).get(path)
            if text != last:
                rows.append((time, text))
            last = text
        return tuple(rows)

    def between(self, one, other):
        """Return the paths that differ between two kept times, in order; NoSuch, BadPiece."""
        if one not in self.times or other not in self.times:
            raise NoSuch(f"no such time: {one} or {other}")
        return unlike(self.store, self.times[one], self.times[other])

    def hurt(self):
        """Return the kept times that can't be given back, in order."""
        return tuple([time for time in sorted(self.times) if not self.can_be_given(time)])

    def can_be_given(self, time):
        """Tell whether a kept time can be given back."""
        try:
            self.give(time)
        except KeepFault:
            return False
        return True

    def shown(self):
        """Return ((time, name), ..) in order, and what the store shows."""
        return tuple((time, self.times[time]) for time in sorted(self.times)), self.store.shown()
