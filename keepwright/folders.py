"""Folders: tables of paths to texts, paths of names with strokes between, and what lies between two folders."""

from keepwright.errors import BadPath

SIGNS = 'abcdefghijklmnopqrstuvwxyz0123456789._-'


def check_path(path):
    """Return a path whose names are of SIGNS, none bare, "." or ".."; BadPath."""
    for name in path.split('/'):
        if name in ('', '.', '..') or name.strip(SIGNS) != '':
            raise BadPath(f"no path: {path!r}")
    return path


def check_folder(table):
    """Return a folder, a table of its own in order of paths, no path within another; BadPath."""
    found = {check_path(path): table[path] for path in sorted(table)}
    # Each path is held against all that it lies within, not against its neighbour: "a-b" stands between
    # "a" and "a/b" in order.
    for path in found:
        if any(over in found for over in overs_of(path)):
            raise BadPath(f"a text within a text: {path!r}")
    return found


def overs_of(path):
    """Return the paths that a path lies within, the shortest first."""
    names = path.split('/')
    return tuple('/'.join(names[:count]) for count in range(1, len(names)))


def names_in(table, over):
    """Return the (name, whether it's a text) rows right within a path, the bare one for all, in order; BadPath."""
    found = {}
    for path in part_of(table, over):
        name, stroke, _ = path.partition('/')
        found[name] = stroke == ''
    # Names have another order than the paths that begin with them: "a-b" is ahead of "a/c", but behind "a".
    return tuple((name, found[name]) for name in sorted(found))


def part_of(table, over):
    """Return the folder that lies within a path, all for the bare one, its paths from there on; BadPath."""
    found = check_folder(table)
    head = over + '/' if over != '' else ''
    return {path[len(head):]: found[path] for path in found if path.startswith(head)}


def between(one, other):
    """Return the (sign, path) of what was put in "+", left out "-" or changed "*", in order of paths; BadPath."""
    old = check_folder(one)
    new = check_folder(other)
    rows = []
    for path in sorted(set(old) | set(new)):
        if path not in old:
            rows.append(('+', path))
        elif path not in new:
            rows.append(('-', path))
        elif old[path] != new[path]:
            rows.append(('*', path))
    return tuple(rows)


def changes_to(one, other):
    """Return the (path, text) changes from a folder to another, None for what is left out, in order; BadPath."""
    return tuple((path, other.get(path)) for sign, path in between(one, other))


def changed(table, changes):
    """Return a folder behind changes, what is left out first; BadPath, and for what isn't there."""
    found = check_folder(table)
    for path, text in changes:
        if text is None:
            if path not in found:
                raise BadPath(f"not there: {path!r}")
            del found[path]
    for path, text in changes:
        if text is not None:
            found[path] = text
    return check_folder(found)


def moved(one, other):
    """Return the (old path, new path) of texts left out at one place and put in at another, in order; BadPath."""
    rows = between(one, other)
    gone = [path for sign, path in rows if sign == '-']
    come = [path for sign, path in rows if sign == '+']
    found = []
    for new in come:
        alike = [old for old in gone if one[old] == other[new]]
        if alike != []:
            # A place that a text came from is taken by it: another put in comes from the next such place, or is fresh.
            gone.remove(alike[0])
            found.append((alike[0], new))
    return tuple(sorted(found))


def size_of(table):
    """Return how many signs a folder's texts have in all."""
    return sum(len(text) for text in table.values())


def twins(table):
    """Return the lots of paths, two or more, whose texts are one, in order of the first paths; BadPath."""
    found = check_folder(table)
    lots = {}
    for path in found:
        lots.setdefault(found[path], []).append(path)
    return tuple(tuple(lot) for lot in lots.values() if len(lot) > 1)
