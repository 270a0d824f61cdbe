"""Trees: folders kept as pieces that name other pieces, alike parts once, read whole, in part, and side by side."""

from keepwright.cuts import told
from keepwright.errors import BadPiece, NoSuch
from keepwright.folders import check_folder

BOUNDS = (4, 12, 3, 5)


def put_text(store, text):
    """Return the name of the list of a text's pieces, put in a store."""
    least, most, window, by = BOUNDS
    names = [store.put('p' + piece) for piece in told(text, least, most, window, by)]
    return store.put('l' + ' '.join(names))


def get_text(store, name):
    """Return the text of a list's name; NoSuch, BadPiece for what is no list or piece."""
    pieces = [body(store, word, 'p') for word in words_of(body(store, name, 'l'))]
    return ''.join(pieces)


def body(store, name, kind):
    """Return what stands behind a piece's kind; NoSuch, BadPiece for another kind."""
    piece = store.get(name)
    if piece[:1] != kind:
        raise BadPiece(f"another kind than {kind!r}: {name!r}")
    return piece[1:]


def words_of(text):
    """Return a text's words, none for a bare one."""
    return text.split(' ') if text != '' else []


def put_folder(store, table):
    """Return the name of a folder's tree, put in a store; BadPath."""
    return put_part(store, check_folder(table))


def put_part(store, part):
    """Return the name of the tree of a folder that is checked, or of what lies within one of its paths."""
    lots = {}
    for path in part:
        word, _, rest = path.partition('/')
        lots.setdefault(word, {})[rest] = part[path]
    rows = []
    for word in sorted(lots):
        lot = lots[word]
        # The bare path is that of a text: no other path begins with its name then.
        inner = put_text(store, lot['']) if '' in lot else put_part(store, lot)
        rows.append(f"{word} {inner}")
    return store.put('t' + '/'.join(rows))


def rows_of(store, name):
    """Return the (word, name) rows of a tree's name; NoSuch, BadPiece."""
    text = body(store, name, 't')
    rows = text.split('/') if text != '' else []
    found = []
    for row in rows:
        word, _, inner = row.partition(' ')
        found.append((word, inner))
    return tuple(found)


def rows_from(store, name, head):
    """Return the (path, name) rows of a tree's name, from a path on; NoSuch, BadPiece."""
    start = head + '/' if head != '' else ''
    return [(start + word, inner) for word, inner in rows_of(store, name)]


def get_folder(store, name):
    """Return the folder of a tree's name; NoSuch, BadPiece, BadPath."""
    found = {}
    left = rows_from(store, name, '')[::-1]
    while left != []:
        path, inner = left.pop()
        if store.get(inner)[:1] == 'l':
            found[path] = get_text(store, inner)
        else:
            left.extend(rows_from(store, inner, path)[::-1])
    return check_folder(found)


def get_path(store, name, path):
    """Return the text at a path of a tree's name, only what leads there read; NoSuch, BadPiece."""
    words = path.split('/')
    here = name
    for count, word in enumerate(words, start=1):
        inner = dict(rows_of(store, here)).get(word)
        if inner is None or (store.get(inner)[:1] == 'l') != (count == len(words)):
            raise NoSuch(f"no text there: {path!r}")
        here = inner
    return get_text(store, here)


def needs(store, name):
    """Return all names that a name needs, itself too, each once, in order; NoSuch, BadPiece."""
    return all_needs(store, [name])


def all_needs(store, names):
    """Return all names that some names need, themselves too, each once, in order; NoSuch, BadPiece."""
    found = {}
    left = list(names)[::-1]
    while left != []:
        here = left.pop()
        if here not in found:
            found[here] = True
            left.extend(named_in(store, here)[::-1])
    return tuple(sorted(found))


def named_in(store, name):
    """Return the names that a name's piece names, in its order; NoSuch, BadPiece."""
    piece = store.get(name)
    if piece[:1] == 'p':
        return []
    if piece[:1] == 'l':
        return words_of(piece[1:])
    return [inner for word, inner in rows_of(store, name)]


def unlike(store, one, other, head=''):
    """Return the paths at which two trees' names differ, alike parts not read, in order; NoSuch, BadPiece."""
    found = {}
    left = [(head, one, other)]
    while left != []:
        path, old, new = left.pop()
        if old != new and both_trees(store, old, new):
            left.extend(side_by_side(store, old, new, path)[::-1])
        elif old != new:
            for inner in paths_at(store, old, path) + paths_at(store, new, path):
                found[inner] = True
    return tuple(sorted(found))


def side_by_side(store, one, other, head):
    """Return the (path, name, other's name) rows of two trees' names, None where one has none; NoSuch, BadPiece."""
    old = dict(rows_from(store, one, head))
    new = dict(rows_from(store, other, head))
    return [(path, old.get(path), new.get(path)) for path in sorted(set(old) | set(new))]


def both_trees(store, one, other):
    """Tell whether two names, None for none, are trees' both; NoSuch, BadPiece."""
    return all(name is not None and store.get(name)[:1] == 't' for name in (one, other))


def paths_at(store, name, head):
    """Return the paths of the texts at a name, None for none, from a path on; NoSuch, BadPiece."""
    found = []
    left = [(head, name)] if name is not None else []
    while left != []:
        path, inner = left.pop()
        if store.get(inner)[:1] == 'l':
            found.append(path)
        else:
            left.extend(rows_from(store, inner, path)[::-1])
    return sorted(found)
