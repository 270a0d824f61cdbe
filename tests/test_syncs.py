"""Point 15, syncs, and points 1 and 18 as far as they speak of keepwright.syncs."""

import unittest
from itertools import product

from checks import Checks, small_folders
from keepwright.errors import BadPath, BadRule
from keepwright.folders import changed
from keepwright.syncs import SIDES, brought, changes_between, deeds, is_plain, put, sent, to_send

BASE = {'both/alike': '1', 'both/unlike': '1', 'gone/both': '1', 'gone/left': '1', 'gone/right': '1', 'gone/one': '1',
        'one': '1', 'other': '1', 'stays': '1'}
LEFT = {'both/alike': '2', 'both/unlike': '2', 'fresh/alike': '5', 'fresh/left': '5', 'fresh/unlike': '6',
        'gone/right': '2', 'one': '2', 'other': '1', 'stays': '1'}
RIGHT = {'both/alike': '2', 'both/unlike': '3', 'fresh/alike': '5', 'fresh/unlike': '7', 'gone/left': '3',
         'gone/one': '1', 'one': '1', 'other': '3', 'stays': '1'}
DEEDS = (('both/alike', 'same'), ('both/unlike', 'quarrel'), ('fresh/alike', 'same'), ('fresh/left', 'left'),
         ('fresh/unlike', 'quarrel'), ('gone/both', 'same'), ('gone/left', 'quarrel'), ('gone/one', 'left'),
         ('gone/right', 'quarrel'), ('one', 'left'), ('other', 'right'))
QUARRELS = ('both/unlike', 'fresh/unlike', 'gone/left', 'gone/right')
PLAIN = {'both/alike': '2', 'fresh/alike': '5', 'fresh/left': '5', 'one': '2', 'other': '3', 'stays': '1'}
BAD_FOLDERS = ({'': 'x'}, {'A': 'x'}, {'a': 'x', 'a/b': 'y'})


def in_order(table):
    """Return a table in order of its paths."""
    return dict(sorted(table.items()))


def small_tables():
    """Return all folders of two paths that hold nothing, or one of two texts."""
    return [{path: text for path, text in zip(('a', 'b'), texts) if text is not None}
            for texts in product((None, 'x', 'y'), repeat=2)]


class TestDeeds(Checks):
    def test_who_has_changed_what(self):
        self.gives(deeds(BASE, LEFT, RIGHT), DEEDS)

    def test_the_other_way_round(self):
        turn = {'left': 'right', 'right': 'left'}
        self.gives(deeds(BASE, RIGHT, LEFT), tuple((path, turn.get(kind, kind)) for path, kind in DEEDS))

    def test_nothing_changed(self):
        self.gives(deeds({}, {}, {}), ())
        self.gives(deeds(BASE, BASE, BASE), ())

    def test_bare_texts_are_there(self):
        self.gives(deeds({'a': ''}, {}, {'a': ''}), (('a', 'left'),))
        self.gives(deeds({}, {'a': ''}, {}), (('a', 'left'),))
        self.gives(deeds({'a': 'x'}, {'a': ''}, {}), (('a', 'quarrel'),))

    def test_each_path_by_its_texts(self):
        for base, left, right in product(small_tables(), repeat=3):
            wanted = []
            for path in ('a', 'b'):
                texts = (base.get(path), left.get(path), right.get(path))
                if texts[1] != texts[0] and texts[2] != texts[0]:
                    wanted.append((path, 'same' if texts[1] == texts[2] else 'quarrel'))
                elif texts[1] != texts[0]:
                    wanted.append((path, 'left'))
                elif texts[2] != texts[0]:
                    wanted.append((path, 'right'))
            self.gives(deeds(base, left, right), tuple(wanted))

    def test_what_is_no_folder(self):
        for table in BAD_FOLDERS:
            for tables in ((table, {}, {}), ({}, table, {}), ({}, {}, table)):
                for ask in (lambda: deeds(*tables), lambda: brought(*tables, 'left'), lambda: is_plain(*tables),
                            lambda: to_send(*tables, 'both')):
                    self.refuses(BadPath, ask, tables)


class TestBrought(Checks):
    def test_each_side(self):
        self.gives(SIDES, ('left', 'right', 'both'))
        left = {**PLAIN, 'both/unlike': '2', 'fresh/unlike': '6', 'gone/right': '2'}
        right = {**PLAIN, 'both/unlike': '3', 'fresh/unlike': '7', 'gone/left': '3'}
        both = {**PLAIN, 'both/unlike': '2', 'both/unlike.right': '3', 'fresh/unlike': '6', 'fresh/unlike.right': '7',
                'gone/left': '3', 'gone/right': '2'}
        self.gives(brought(BASE, LEFT, RIGHT, 'left'), (in_order(left), QUARRELS))
        self.gives(brought(BASE, LEFT, RIGHT, 'right'), (in_order(right), QUARRELS))
        self.gives(brought(BASE, LEFT, RIGHT, 'both'), (in_order(both), QUARRELS))

    def test_nothing_handed_in_is_changed(self):
        base, left, right = dict(BASE), dict(LEFT), dict(RIGHT)
        for side in SIDES:
            brought(base, left, right, side)
            to_send(base, left, right, side)
        self.gives((base, left, right), (BASE, LEFT, RIGHT))

    def test_without_a_quarrel_each_side_is_alike(self):
        for side in SIDES:
            self.gives(brought({}, {}, {}, side), ({}, ()))
            self.gives(brought({'b': 'x', 'a': 'x'}, {'b': 'x'}, {'b': 'y', 'a': 'x', 'c': 'z'}, side),
                       ({'b': 'y', 'c': 'z'}, ()))

    def test_both_with_a_path_left_out_on_one_side(self):
        # The other's text stands, and none is put beside it.
        self.gives(brought({'a': 'x'}, {}, {'a': 'y'}, 'both'), ({'a': 'y'}, ('a',)))
        self.gives(brought({'a': 'x'}, {'a': 'y'}, {}, 'both'), ({'a': 'y'}, ('a',)))
        self.gives(brought({'a': 'x'}, {'a': ''}, {}, 'both'), ({'a': ''}, ('a',)))
        self.gives(brought({'a': 'x'}, {}, {'a': 'y', 'a.right': 'z'}, 'both'), ({'a': 'y', 'a.right': 'z'}, ('a',)))

    def test_both_with_the_path_beside_there_already(self):
        for place in range(3):
            tables = [{'a': '0'}, {'a': '1'}, {'a': '2'}]
            tables[place] = {**tables[place], 'a.right': 'z'}
            self.refuses(BadPath, lambda: brought(*tables, 'both'), tables)
            self.refuses(BadPath, lambda: to_send(*tables, 'both'), tables)
            for side in ('left', 'right'):
                self.gives(brought(*tables, side)[1][:1], ('a',))
        self.gives(brought({'a.right': 'z'}, {'a.right': 'z', 'b': '1'}, {'a.right': 'z', 'b': '2'}, 'both'),
                   ({'a.right': 'z', 'b': '1', 'b.right': '2'}, ('b',)))

    def test_both_with_the_path_beside_within_another(self):
        self.refuses(BadPath, lambda: brought({}, {'a': '1', 'a.right/b': 'x'}, {'a': '2'}, 'both'))
        self.gives(brought({}, {'a': '1', 'a.right/b': 'x'}, {'a': '2'}, 'right'),
                   ({'a': '2', 'a.right/b': 'x'}, ('a',)))

    def test_another_side(self):
        for side in ('', 'Left', 'same', 'quarrel', 'none'):
            self.refuses(BadRule, lambda: brought(BASE, LEFT, RIGHT, side), BASE, LEFT, RIGHT)
            self.refuses(BadRule, lambda: to_send(BASE, LEFT, RIGHT, side), BASE, LEFT, RIGHT)
            self.refuses(BadRule, lambda: brought({'A': ''}, {}, {}, side))

    def test_paths_that_cannot_stand_together(self):
        for side in SIDES:
            self.refuses(BadPath, lambda: brought({}, {'a': 'x'}, {'a/b': 'y'}, side))
            self.refuses(BadPath, lambda: to_send({}, {'a': 'x'}, {'a/b': 'y'}, side))
        # A quarrel over what a text came in place of: the side that is taken leaves it out, or doesn't.
        one, other = {'a': 'x'}, {'a/b': 'z'}
        self.gives(brought({'a/b': 'y'}, one, other, 'left'), ({'a': 'x'}, ('a/b',)))
        self.refuses(BadPath, lambda: brought({'a/b': 'y'}, one, other, 'right'), one, other)
        self.refuses(BadPath, lambda: brought({'a/b': 'y'}, one, other, 'both'), one, other)

    def test_one_side_changed_is_taken_whole(self):
        for base, other in product(small_folders()[::7], small_folders()[::5]):
            for side in SIDES:
                self.gives(brought(base, base, other, side), (in_order(other), ()))
                self.gives(brought(base, other, base, side), (in_order(other), ()))
                self.gives(brought(base, other, other, side), (in_order(other), ()))


class TestPlain(Checks):
    def test_is_plain(self):
        self.assertIs(is_plain(BASE, LEFT, RIGHT), False)
        self.assertIs(is_plain({}, {}, {}), True)
        self.assertIs(is_plain({'a': 'x'}, {'a': 'x', 'b': ''}, {}), True)
        self.assertIs(is_plain({}, {'a': 'x'}, {'a': 'x'}), True)
        self.assertIs(is_plain({}, {'a': 'x'}, {'a': 'y'}), False)
        self.assertIs(is_plain({'a': 'x'}, {}, {'a': 'y'}), False)

    def test_paths_that_cannot_stand_together(self):
        self.assertIs(is_plain({}, {'a': 'x'}, {'a/b': 'y'}), False)
        self.assertIs(is_plain({'a/b': 'y'}, {'a': 'x'}, {'a/b': 'y'}), True)
        self.assertIs(is_plain({'a/b': 'y'}, {'a': 'x'}, {'a/b': 'y', 'a/c': 'z'}), False)

    def test_by_what_is_brought(self):
        for base, left, right in product(small_tables(), repeat=3):
            folder, quarrels = brought(base, left, right, 'both')
            self.assertIs(is_plain(base, left, right), quarrels == ())


class TestSent(Checks):
    def test_to_send_makes_both_sides_the_folder_together(self):
        rows = list(product(small_tables(), repeat=3)) + [(BASE, LEFT, RIGHT)]
        for (base, left, right), side in product(rows, SIDES):
            folder, _ = brought(base, left, right, side)
            to_left, to_right = to_send(base, left, right, side)
            self.gives(sent(left, to_left), folder)
            self.gives(sent(right, to_right), folder)

    def test_to_send(self):
        self.gives(to_send({'a': '1'}, {'a': '2', 'b': 'x'}, {'a': '3'}, 'both'),
                   ((('a.right', '3'),), (('a', '2'), ('a.right', '3'), ('b', 'x'))))
        self.gives(to_send({'a': '1'}, {'b': 'x'}, {'a': '1'}, 'left'), ((), (('a', None), ('b', 'x'))))
        self.gives(to_send({}, {}, {}, 'right'), ((), ()))

    def test_changes_between(self):
        self.gives(changes_between({}, {}), ())
        self.gives(changes_between({'c': 'x', 'b': 'y', 'a': ''}, {'d': '', 'b': 'z', 'c': 'x'}),
                   (('a', None), ('b', 'z'), ('d', '')))
        # Tables that are no folders can be held against each other too.
        self.gives(changes_between({'a': 'x'}, {'a/b': 'y', 'a': 'x'}), (('a/b', 'y'),))

    def test_changes_there_and_back(self):
        for one, other in product(small_folders()[::4], repeat=2):
            self.gives(sent(one, changes_between(one, other)), in_order(other))

    def test_sent(self):
        table = {'b': 'x', 'a': 'y'}
        self.gives(sent(table, [['c/d', ''], ('a', None)]), {'b': 'x', 'c/d': ''})
        self.gives(sent(table, ()), {'a': 'y', 'b': 'x'})
        for changes in ([('c', None)], [('A', 'x')], [('a/b', 'x')], [('c', 'x'), ('c/d', 'x')]):
            self.refuses(BadPath, lambda: sent(table, changes), table, changes)
            self.refuses(BadPath, lambda: changed(table, changes), table, changes)

    def test_put(self):
        table = {'b': 'x', 'a': 'y'}
        self.gives(put(table, 'c', 'z'), {'a': 'y', 'b': 'x', 'c': 'z'})
        self.gives(put(table, 'b', ''), {'a': 'y', 'b': ''})
        self.gives(put(table, 'b', None), {'a': 'y'})
        self.gives(put(table, 'c', None), {'a': 'y', 'b': 'x'})
        self.gives(put({}, 'a', None), {})
        self.gives(table, {'b': 'x', 'a': 'y'})


if __name__ == '__main__':
    unittest.main()
