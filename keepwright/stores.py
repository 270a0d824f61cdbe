"""Stores: pieces by names that tell their figure, each once."""

from keepwright.errors import BadPiece, NoSuch

BASE = 257
WIDE = 1000003


def figure(text):
    """Return a text's figure: sign by sign, times a base and the sign's number added, what is left by a number."""
    number = 7
    for sign in text:
        number = (number * BASE + ord(sign)) % WIDE
    return number


def is_right(name, piece):
    """Tell whether a name tells a piece's figure."""
    return name.partition('.')[0] == str(figure(piece))


class Store:
    """A table of names to pieces; a name is the figure, a dot, and which one of that figure it is, from nought on."""

    def __init__(self, rows=()):
        self.pieces = {}
        for name, piece in rows:
            self.pieces[name] = piece

    def put(self, piece):
        """Return a piece's name, put in under the least free number if it isn't there."""
        name = self.find(piece)
        if name is None:
            name = self.free_name(piece)
            self.pieces[name] = piece
        return name

    def free_name(self, piece):
        """Return the name of a piece's figure with the least number that is free."""
        head = figure(piece)
        number = 0
        while f"{head}.{number}" in self.pieces:
            number += 1
        return f"{head}.{number}"

    def get(self, name):
        """Return a name's piece; NoSuch, BadPiece for one of another figure."""
        if name not in self.pieces:
            raise NoSuch(f"no piece: {name!r}")
        piece = self.pieces[name]
        if not is_right(name, piece):
            raise BadPiece(f"a piece of another figure: {name!r}")
        return piece

    def find(self, piece):
        """Return a piece's name, None where it isn't there."""
        # The numbers from nought on are tried ahead of all names, as most pieces are found there at once.
        head = figure(piece)
        number = 0
        while f"{head}.{number}" in self.pieces:
            if self.pieces[f"{head}.{number}"] == piece:
                return f"{head}.{number}"
            number += 1
        # A piece may stand behind a free number, too. Under the name of another figure it is broken, so not there.
        found = [name for name, held in self.pieces.items() if held == piece and is_right(name, piece)]
        return min(found, default=None)

    def drop(self, name):
        """Take a name's piece out; NoSuch."""
        if name not in self.pieces:
            raise NoSuch(f"no piece: {name!r}")
        del self.pieces[name]

    def names(self):
        """Return the names, in order of their words."""
        return tuple(sorted(self.pieces))

    def size(self):
        """Return how many signs all pieces have."""
        return sum(len(piece) for piece in self.pieces.values())

    def broken(self):
        """Return the names whose pieces have another figure, in order."""
        return tuple(name for name in self.names() if not is_right(name, self.pieces[name]))

    def shown(self):
        """Return ((name, piece), ..) in order."""
        return tuple((name, self.pieces[name]) for name in self.names())


def copied(store, other, names):
    """Return the names put in another store, or mended there, in order; NoSuch, BadPiece where another stands."""
    fresh = {}
    for name in names:
        piece = store.get(name)
        if name not in other.pieces or not is_right(name, other.pieces[name]):
            fresh[name] = piece
        elif other.pieces[name] != piece:
            raise BadPiece(f"another piece stands there: {name!r}")
    # Nothing is put in ahead of the last name's check, so that what is refused changes nothing.
    for name in fresh:
        other.pieces[name] = fresh[name]
    return tuple(sorted(fresh))


def missing(store, names):
    """Return the names that aren't in a store, each once, in order."""
    return tuple(sorted({name for name in names if name not in store.pieces}))


def mended(store, other):
    """Return the names whose pieces were broken and are taken from another store where they are right, in order."""
    found = [name for name in store.broken() if name in other.pieces and is_right(name, other.pieces[name])]
    for name in found:
        store.pieces[name] = other.pieces[name]
    return tuple(found)
