"""Journals: deeds written ahead of being done, so that a cut anywhere leaves the one state or the next, whole."""

from keepwright.errors import BadStore, BadText
from keepwright.folders import changed
from keepwright.stores import figure


def line_of(number, changes):
    """Return a deed's line: its number, its changes, its figure, a row's end; BadText for a sign that can't stand."""
    words = [str(number), str(len(changes))]
    for path, text in changes:
        if text is not None and (' ' in text or '\n' in text or '=' in text):
            raise BadText(f"a blank, a row's end or a sign between in a text: {text!r}")
        words.append(path if text is None else path + '=' + text)
    body = ' '.join(words)
    return f"{body} {figure(body)}\n"


def read_line(line, number):
    """Return the changes of a line without its row's end, () for none, None where it isn't as line_of writes it."""
    changes = tuple([change_of(word) for word in line.split(' ')[2:-1]])
    try:
        right = line_of(number, changes) == line + '\n'
    except BadText:
        return None
    return changes if right else None


def change_of(word):
    """Return the (path, text) of a deed's word, None for what is left out."""
    path, sign, text = word.partition('=')
    return (path, text if sign != '' else None)


class Journal:
    """A folder, and the text of all deeds done to it, each written ahead."""

    def __init__(self):
        self.folder = {}
        self.text = ''
        self.many = 0

    def do(self, changes):
        """Write changes down, then do them; BadPath, BadText, and nothing is written for what can't be."""
        fresh = changed(self.folder, changes)
        self.text = self.text + line_of(self.many, changes)
        self.many += 1
        self.folder = fresh

    def at(self, number):
        """Return the folder behind so many deeds; BadStore for more than there are."""
        if not 0 <= number <= self.many:
            raise BadStore(f"{number} deeds of {self.many}")
        folder, _ = again(self.text, number)
        return folder


def whole_lines(text):
    """Return the changes of all whole lines, up to the first that isn't."""
    found = []
    # What stands behind the last row's end is cut off.
    for line in text.split('\n')[:-1]:
        changes = read_line(line, len(found))
        if changes is None:
            break
        found.append(changes)
    return tuple(found)


def again(text, most=None):
    """Return (folder, how many deeds) of a text's whole lines, so many at most; BadPath."""
    rows = whole_lines(text)
    if most is not None:
        rows = rows[:max(0, most)]
    folder = {}
    for changes in rows:
        folder = changed(folder, changes)
    return (folder, len(rows))


def opened(text):
    """Return the journal of a text's whole lines, what stands behind them left out; BadPath."""
    journal = Journal()
    for changes in whole_lines(text):
        journal.do(changes)
    return journal


def shortened(journal):
    """Return the journal of one deed that makes the folder, none for a bare one; BadPath, BadText."""
    fresh = Journal()
    if journal.folder != {}:
        fresh.do(tuple(journal.folder.items()))
    return fresh


def is_whole(text):
    """Tell whether a text is whole lines alone."""
    return cut_lines(text) == 0


def cut_lines(text):
    """Return how many signs of a text aren't of its whole lines."""
    return len(text) - sum(len(line_of(number, changes)) for number, changes in enumerate(whole_lines(text)))
