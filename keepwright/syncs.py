"""Syncs: two folders that were one brought together: what but one has changed is taken, quarrels keep both."""

from keepwright.errors import BadPath, BadRule
from keepwright.folders import changed, check_folder

SIDES = ('left', 'right', 'both')


def deeds(base, left, right):
    """Return the (path, kind) of paths that changed, in order: "left" or "right" has, "same" or "quarrel"; BadPath."""
    was = check_folder(base)
    one = check_folder(left)
    other = check_folder(right)
    rows = []
    for path in sorted(set(was) | set(one) | set(other)):
        kind = kind_of(was.get(path), one.get(path), other.get(path))
        if kind is not None:
            rows.append((path, kind))
    return tuple(rows)


def kind_of(base, left, right):
    """Return the word for who changed a text, None for what isn't there; None where neither has."""
    if left == base and right == base:
        return None
    if left == right:
        return 'same'
    if right == base:
        return 'left'
    return 'right' if left == base else 'quarrel'


def brought(base, left, right, side):
    """Return (folder, quarrels): changes of one side taken, quarrels by a side, or both; BadRule, BadPath.

    The quarrels are paths in order; where both texts stay, the right one is at the path with ".right" behind it.
    """
    if side not in SIDES:
        raise BadRule(f"no side: {side!r}")
    rows = deeds(base, left, right)
    found = dict(base)
    for path, kind in rows:
        taken = side if kind == 'quarrel' else kind
        if taken == 'both':
            found.update(both_texts(base, left, right, path))
        else:
            found[path] = right.get(path) if taken == 'right' else left.get(path)
    folder = check_folder({path: found[path] for path in found if found[path] is not None})
    return (folder, tuple([path for path, kind in rows if kind == 'quarrel']))


def both_texts(base, left, right, path):
    """Return a table of paths to the texts by which a quarrel keeps both sides; BadPath for a path that is taken."""
    if path not in left or path not in right:
        return {path: right[path] if path in right else left[path]}
    beside = path + '.right'
    if any(beside in table for table in (base, left, right)):
        raise BadPath(f"there already: {beside!r}")
    return {path: left[path], beside: right[path]}


def put(table, path, text):
    """Return a table with a path's text, without it for None."""
    found = {**table, path: text}
    return {place: found[place] for place in sorted(found) if found[place] is not None}


def is_plain(base, left, right):
    """Tell whether two folders come together without a quarrel, and their paths can stand together; BadPath."""
    if any(kind == 'quarrel' for path, kind in deeds(base, left, right)):
        return False
    # What is handed in was a folder each, so that what is refused from here on can't stand together.
    try:
        brought(base, left, right, 'both')
    except BadPath:
        return False
    return True


def to_send(base, left, right, side):
    """Return (changes for the left, changes for the right) that make both the folder together; BadPath, BadRule."""
    folder, _ = brought(base, left, right, side)
    return (changes_between(left, folder), changes_between(right, folder))


def changes_between(one, other):
    """Return the (path, text) changes from a folder to another, None for what is left out, in order."""
    return tuple([(path, other.get(path)) for path in sorted(set(one) | set(other))
                  if one.get(path) != other.get(path)])


def sent(table, changes):
    """Return a folder behind changes; BadPath."""
    return changed(table, changes)
