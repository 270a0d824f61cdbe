"""What tests of several modules share: answers held with their kinds, refusals held with what they left as it was."""

import unittest
from itertools import product

from keepwright.errors import KeepFault


def state(thing):
    """Return all that a thing holds, tables in their order, as a value of its own."""
    if isinstance(thing, dict):
        return ('table', [(key, state(worth)) for key, worth in thing.items()])
    if isinstance(thing, (list, tuple)):
        return (type(thing).__name__, [state(part) for part in thing])
    if hasattr(thing, '__dict__'):
        return (type(thing).__name__, state(vars(thing)))
    return thing


def small_folders():
    """Return all folders of some paths, up to three names deep, that may hold nothing or one of two texts."""
    found = []
    for texts in product((None, '', 'x'), repeat=5):
        rows = zip(('a', 'a-b', 'a/b/c', 'a/d', 'b'), texts)
        table = {path: text for path, text in rows if text is not None}
        if not ('a' in table and ('a/b/c' in table or 'a/d' in table)):
            found.append(table)
    return found


class Checks(unittest.TestCase):
    def gives(self, answer, wanted):
        """Hold an answer against what is wanted: its kind, its order and the kinds of all within, too."""
        self.assertEqual(answer, wanted)
        self.assertEqual(state(answer), state(wanted))

    def refuses(self, kind, ask, *held):
        """Check that asking is refused by just this kind, and that nothing in what is held changes."""
        was = state(held)
        with self.assertRaises(KeepFault) as caught:
            ask()
        self.assertIs(type(caught.exception), kind)
        self.assertEqual(state(held), was)
