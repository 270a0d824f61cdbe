"""Archives: a folder in one text, rows of heads and texts behind each other, read, listed, added to and cut."""

from keepwright.errors import BadPath, BadStore, NoSuch
from keepwright.folders import check_folder, check_path
from keepwright.stores import figure

END = 'end'


def written(table):
    """Return a folder's text: heads "path length figure", row's ends, texts, row's ends; the end behind; BadPath."""
    return entries_text(check_folder(table)) + END + '\n'


def entries_text(folder):
    """Return the text of a folder's entries, in its order; BadPath."""
    return ''.join([entry(path, text) for path, text in folder.items()])


def entry(path, text):
    """Return a path's head and text; BadPath."""
    return f"{check_path(path)} {len(text)} {figure(text)}\n{text}\n"


def entries(text):
    """Return the (path, text) of all whole entries, in the text's order, and the place behind them."""
    rows, behind = placed(text)
    return (tuple([(path, worth) for path, worth, _ in rows]), behind)


def placed(text):
    """Return the (path, text, place) of all whole entries, in the text's order, and the place behind them."""
    rows = []
    place = 0
    found = entry_at(text, place)
    while found is not None:
        path, worth, behind = found
        rows.append((path, worth, place))
        place = behind
        found = entry_at(text, place)
    return (rows, place)


def entry_at(text, place):
    """Return the (path, text, place behind) of the entry at a place, None for none that is whole."""
    end = text.find('\n', place)
    if place < 0 or end < 0:
        return None
    words = text[place:end].split(' ')
    if len(words) != 3 or not is_path(words[0]) or not is_count(words[1]):
        return None
    behind = end + 1 + int(words[1])
    worth = text[end + 1:behind]
    # A text that is cut short has no row's end behind it either.
    if text[behind:behind + 1] != '\n' or words[2] != str(figure(worth)):
        return None
    return (words[0], worth, behind + 1)


def is_count(word):
    """Tell whether a word is a number of up to six figures."""
    return len(word) < 7 and word.isascii() and word.isdigit()


def is_path(word):
    """Tell whether a word is a path."""
    try:
        check_path(word)
    except BadPath:
        return False
    return True


def read(text):
    """Return a text's folder, later entries in place of earlier ones; BadStore for one without its end, BadPath."""
    rows, place = entries(text)
    if text[place:] != END + '\n':
        raise BadStore(f"no end behind the entries, at {place}")
    return check_folder(dict(rows))


def saved(text):
    """Return the folder of a text's whole entries, an end cut off; BadPath."""
    rows, _ = entries(text)
    return check_folder(dict(rows))


def listed(text):
    """Return the (path, length) of all whole entries, in the text's order."""
    rows, _ = entries(text)
    return tuple([(path, len(worth)) for path, worth in rows])


def text_of(text, path):
    """Return the last whole entry's text at a path; NoSuch."""
    rows, _ = entries(text)
    found = dict(rows)
    if path not in found:
        raise NoSuch(f"no whole entry: {path!r}")
    return found[path]


def added(text, table):
    """Return an archive's text with a folder's entries ahead of its end; BadPath, BadStore for one without its end."""
    found = read(text)
    fresh = check_folder(table)
    # Whether the fresh paths can stand beside those that stay is asked here: a text that can't be read isn't made.
    check_folder({**found, **fresh})
    return text[:-len(END + '\n')] + entries_text(fresh) + END + '\n'


def thinned(text):
    """Return the archive of a text's folder, each path once; BadPath, BadStore."""
    return written(read(text))


def index_of(text):
    """Return a table of paths to the places at which their last whole entries begin, in order."""
    rows, _ = placed(text)
    places = {path: place for path, worth, place in rows}
    return {path: places[path] for path in sorted(places)}
