"""Point 2, paths and folders, and point 1 as far as it speaks of keepwright.folders."""

import unittest
from itertools import product

from keepwright.errors import BadPath
from keepwright.folders import (SIGNS, between, changed, changes_to, check_folder, check_path, moved, names_in,
                                overs_of, part_of, size_of, twins)

GOOD_PATHS = ('a', '0', 'a/b', 'a.b', '.a', 'a.', '...', '.._', '-', '_', '._-', 'notes/may-2.txt', 'a/.b/c_d/9',
              SIGNS, '/'.join(SIGNS.replace('.', '')))
BAD_PATHS = ('', '.', '..', '/', '//', '/a', 'a/', 'a//b', './a', 'a/.', '../a', 'a/..', 'a/./b', 'a/../b', 'A', 'aB',
             'Ba', 'aBa', 'a b', ' a', 'a ', ' ', 'a\n', 'a\\b', 'a*', 'a?b', 'a=b', 'a:b', 'a/B/c', 'a/b c',
             '\u00e9', 'a\u00e9a', '\u0661')
BAD_FOLDERS = tuple({path: 'x'} for path in BAD_PATHS) + (
    {'a': 'x', 'b c': 'y'},
    {'a': 'x', 'a/b': 'y'},
    {'a/b': 'y', 'a': 'x'},
    {'a': 'x', 'a-b': 'y', 'a/b': 'z'},
    {'a': 'x', 'a-b': 'y', 'a.b': 'y', 'a/b/c/d': 'z'},
    {'a/b': 'x', 'a/b-c': 'y', 'a/b/c': 'z'},
    {'a': '', 'a/b': ''},
)
GOOD_FOLDERS = (
    {},
    {'a': ''},
    {'a': 'x', 'b': 'y'},
    {'b': 'y', 'a': 'x'},
    {'a-b': 'x', 'a/b': 'y', 'a0': 'z', 'a.b': 'w'},
    {'a': 'x', 'a-b': 'y', 'ab/c': 'z', 'a_/a': 'w'},
    {'n/b/c': '1', 'n/b/a': '2', 'n/a': '3', 'm': '4', 'n-o': '5', 'n/b-c': '6'},
)


def small_folders():
    """Return all folders of some paths that may hold nothing or one of two texts."""
    found = []
    for texts in product((None, 'x', 'y'), repeat=4):
        table = {path: text for path, text in zip(('a', 'a-b', 'a/b', 'c'), texts) if text is not None}
        if not ('a' in table and 'a/b' in table):
            found.append(table)
    return found


class FolderTest(unittest.TestCase):
    def gives(self, answer, wanted):
        """Hold an answer against what is wanted, its kind too, and the kinds of the rows within."""
        self.assertEqual(answer, wanted)
        self.assertIs(type(answer), type(wanted))
        if type(wanted) is tuple:
            self.assertEqual([type(row) for row in answer], [type(row) for row in wanted])
        if type(wanted) is dict:
            self.assertEqual(list(answer), list(wanted))

    def refuses_bad_folders(self, ask):
        """Check that a def refuses each bad folder and changes nothing in it."""
        for table in BAD_FOLDERS:
            with self.subTest(table=table):
                rows = list(table.items())
                with self.assertRaises(BadPath):
                    ask(table)
                self.assertEqual(list(table.items()), rows)


class TestPaths(FolderTest):
    def test_good_paths_come_back(self):
        for path in GOOD_PATHS:
            with self.subTest(path=path):
                self.gives(check_path(path), path)

    def test_bad_paths(self):
        for path in BAD_PATHS:
            with self.subTest(path=path), self.assertRaises(BadPath):
                check_path(path)

    def test_every_sign_of_ascii(self):
        for number in range(128):
            sign = chr(number)
            for path in (f'a{sign}b', f'{sign}b', f'a{sign}'):
                with self.subTest(path=path):
                    if sign in SIGNS or path == 'a/b':
                        self.assertEqual(check_path(path), path)
                    else:
                        self.assertRaises(BadPath, check_path, path)

    def test_overs_of(self):
        self.gives(overs_of('a'), ())
        self.gives(overs_of('a/b'), ('a',))
        self.gives(overs_of('a/b-c/d/e.f'), ('a', 'a/b-c', 'a/b-c/d'))
        self.gives(overs_of(''), ())


class TestCheckFolder(FolderTest):
    def test_in_order_of_paths(self):
        self.gives(check_folder({}), {})
        self.gives(check_folder({'b': 'y', 'a': 'x'}), {'a': 'x', 'b': 'y'})
        self.gives(check_folder({'a0': '4', 'a/b': '3', 'a.b': '2', 'a-b': '1', 'a_b': '5'}),
                   {'a-b': '1', 'a.b': '2', 'a/b': '3', 'a0': '4', 'a_b': '5'})

    def test_no_path_within_another(self):
        self.gives(check_folder({'a': 'x', 'a-b': 'y', 'ab': 'z', 'b/a': 'w'}),
                   {'a': 'x', 'a-b': 'y', 'ab': 'z', 'b/a': 'w'})
        self.gives(check_folder({'a/b': 'x', 'a/bc': 'y', 'a/c/d': 'z'}), {'a/b': 'x', 'a/bc': 'y', 'a/c/d': 'z'})

    def test_bad_folders(self):
        self.refuses_bad_folders(check_folder)

    def test_a_table_of_its_own(self):
        table = {'b': 'y', 'a': 'x'}
        found = check_folder(table)
        found['c'] = 'z'
        self.assertEqual(list(table.items()), [('b', 'y'), ('a', 'x')])


class TestParts(FolderTest):
    TABLE = {'n/b/c': '1', 'n/b/a': '2', 'n/a': '3', 'm': '4', 'n-o': '5', 'n/b-c': '6', 'nn/a': '7'}

    def test_names_in(self):
        self.gives(names_in(self.TABLE, ''), (('m', True), ('n', False), ('n-o', True), ('nn', False)))
        self.gives(names_in(self.TABLE, 'n'), (('a', True), ('b', False), ('b-c', True)))
        self.gives(names_in(self.TABLE, 'n/b'), (('a', True), ('c', True)))

    def test_names_in_has_true_and_false(self):
        for name, is_text in names_in(self.TABLE, 'n'):
            self.assertIs(type(is_text), bool, name)

    def test_names_in_what_has_none(self):
        for over in ('m', 'n/a', 'x', 'n/x', 'n-', 'n/', '/', 'n/b/c', 'N'):
            with self.subTest(over=over):
                self.gives(names_in(self.TABLE, over), ())
        self.gives(names_in({}, ''), ())
        self.gives(names_in({}, 'a'), ())

    def test_part_of(self):
        self.gives(part_of(self.TABLE, ''), {'m': '4', 'n-o': '5', 'n/a': '3', 'n/b-c': '6', 'n/b/a': '2',
                                             'n/b/c': '1', 'nn/a': '7'})
        self.gives(part_of(self.TABLE, 'n'), {'a': '3', 'b-c': '6', 'b/a': '2', 'b/c': '1'})
        self.gives(part_of(self.TABLE, 'n/b'), {'a': '2', 'c': '1'})

    def test_part_of_what_has_none(self):
        for over in ('m', 'n/a', 'x', 'n/x', 'n-', 'n/', '/', 'n/b/c', 'N'):
            with self.subTest(over=over):
                self.gives(part_of(self.TABLE, over), {})
        self.gives(part_of({}, ''), {})

    def test_bad_folders(self):
        for over in ('', 'a', 'z'):
            self.refuses_bad_folders(lambda table: names_in(table, over))
            self.refuses_bad_folders(lambda table: part_of(table, over))

    def test_nothing_handed_in_changes(self):
        table = dict(self.TABLE)
        names_in(table, '')
        part_of(table, '')['m'] = 'new'
        self.assertEqual(list(table.items()), list(self.TABLE.items()))


class TestBetween(FolderTest):
    ONE = {'d': '1', 'a/b': '2', 'a-b': '3', 'c': '4'}
    OTHER = {'e': '9', 'c': '4', 'a/c': '2', 'a-b': '5'}

    def test_between(self):
        self.gives(between(self.ONE, self.OTHER), (('*', 'a-b'), ('-', 'a/b'), ('+', 'a/c'), ('-', 'd'), ('+', 'e')))
        self.gives(between(self.OTHER, self.ONE), (('*', 'a-b'), ('+', 'a/b'), ('-', 'a/c'), ('+', 'd'), ('-', 'e')))

    def test_bare_and_alike_folders(self):
        self.gives(between({}, {}), ())
        self.gives(between({}, {'b': '', 'a': ''}), (('+', 'a'), ('+', 'b')))
        self.gives(between({'b': '', 'a': ''}, {}), (('-', 'a'), ('-', 'b')))
        self.gives(between({'b': '', 'a': 'x'}, {'a': 'x', 'b': ''}), ())
        self.gives(between({'a': ''}, {'a': 'x'}), (('*', 'a'),))

    def test_a_text_in_place_of_texts_within(self):
        self.gives(between({'a/b': 'x', 'a-': 'y'}, {'a': 'x'}), (('+', 'a'), ('-', 'a-'), ('-', 'a/b')))

    def test_changes_to(self):
        self.gives(changes_to(self.ONE, self.OTHER),
                   (('a-b', '5'), ('a/b', None), ('a/c', '2'), ('d', None), ('e', '9')))
        self.gives(changes_to({}, {}), ())
        self.gives(changes_to({}, {'b': '', 'a': 'x'}), (('a', 'x'), ('b', '')))
        self.gives(changes_to({'b': '', 'a': 'x'}, {}), (('a', None), ('b', None)))
        self.gives(changes_to({'a': 'x'}, {'a': 'x'}), ())

    def test_bad_folders_on_either_side(self):
        for ask in (between, changes_to, moved):
            for other in ({}, {'a': 'x'}, {'z': 'x'}):
                self.refuses_bad_folders(lambda table: ask(table, other))
                self.refuses_bad_folders(lambda table: ask(other, table))

    def test_nothing_handed_in_changes(self):
        for ask in (between, changes_to, moved):
            one, other = dict(self.ONE), dict(self.OTHER)
            ask(one, other)
            self.assertEqual(list(one.items()), list(self.ONE.items()))
            self.assertEqual(list(other.items()), list(self.OTHER.items()))


class TestMoved(FolderTest):
    def test_moved(self):
        one = {'c': 'x', 'a': 'y', 'k': 'z'}
        other = {'b': 'x', 'd/e': 'y', 'k': 'z'}
        self.gives(moved(one, other), (('a', 'd/e'), ('c', 'b')))
        self.gives(moved(other, one), (('b', 'c'), ('d/e', 'a')))

    def test_what_is_not_moved(self):
        self.gives(moved({}, {}), ())
        self.gives(moved({'a': 'x'}, {'a': 'x'}), ())
        self.gives(moved({'a': 'x'}, {'b': 'y'}), ())
        self.gives(moved({'a': 'x'}, {'a': 'x', 'b': 'x'}), ())
        self.gives(moved({'a': 'x', 'b': 'x'}, {'a': 'x'}), ())

    def test_texts_changed_in_their_places_are_not_moved(self):
        self.gives(moved({'a': 'x', 'b': 'y'}, {'a': 'y', 'b': 'x'}), ())
        self.gives(moved({'a': 'x', 'b': 'y'}, {'a': 'y', 'c': 'x'}), ())
        self.gives(moved({'a': 'x'}, {'a': 'y', 'b': 'x'}), ())

    def test_bare_texts_and_texts_within(self):
        self.gives(moved({'a': ''}, {'a/b': ''}), (('a', 'a/b'),))

    def test_one_text_put_in_comes_from_one_place(self):
        self.gives(moved({'a': '=', 'd/a': 'b', 'd/e/c': 'bb=', 'd/e/x': 'b'}, {'a': '', 'd': 'b'}), (('d/a', 'd'),))
        self.gives(moved({'b': 'x', 'a': 'x'}, {'c': 'x'}), (('a', 'c'),))

    def test_one_text_left_out_goes_to_one_place(self):
        self.gives(moved({'a': 'x'}, {'b': 'x', 'c': 'x'}), (('a', 'b'),))
        self.gives(moved({'b': 'x'}, {'c': 'x', 'a': 'x'}), (('b', 'a'),))

    def test_as_many_left_out_as_put_in_are_taken_in_order(self):
        self.gives(moved({'a': 'x', 'b': 'x'}, {'c': 'x', 'd': 'x'}), (('a', 'c'), ('b', 'd')))
        self.gives(moved({'d': 'x', 'c': 'x'}, {'b': 'x', 'a': 'x'}), (('c', 'a'), ('d', 'b')))
        self.gives(moved({'a': 'x', 'b': 'y', 'c': 'x', 'd': 'y'}, {'e': 'y', 'f': 'x', 'g': 'y', 'h': 'x'}),
                   (('a', 'f'), ('b', 'e'), ('c', 'h'), ('d', 'g')))

    def test_a_text_left_out_at_two_places_and_put_in_at_none(self):
        self.gives(moved({'a': 'x', 'b': 'x'}, {}), ())
        self.gives(moved({'a': 'x', 'b': 'x', 'c': 'y'}, {'c': 'y', 'd': 'z'}), ())
        self.gives(moved({'a': 'x', 'b': 'x', 'c': 'x'}, {'c': 'x'}), ())

    def test_texts_that_stay_and_stand_at_another_place_too(self):
        self.gives(moved({'a': 'x', 'b': 'x'}, {'a': 'x', 'c': 'x'}), (('b', 'c'),))
        self.gives(moved({'a': 'x', 'b': 'x'}, {'a': 'x', 'c': 'x', 'd': 'x'}), (('b', 'c'),))
        self.gives(moved({'b': 'x', 'c': 'x', 'd': 'x'}, {'b': 'x', 'a': 'x'}), (('c', 'a'),))

    def test_the_bare_text_is_moved_as_any_other(self):
        self.gives(moved({'a': '', 'b': ''}, {'c': '', 'd': ''}), (('a', 'c'), ('b', 'd')))
        self.gives(moved({'a': '', 'b': ''}, {'c': ''}), (('a', 'c'),))
        self.gives(moved({'a': ''}, {'b': '', 'c': ''}), (('a', 'b'),))

    def test_each_place_stands_in_one_row_at_most(self):
        for one in small_folders():
            for other in small_folders():
                with self.subTest(one=one, other=other):
                    rows = moved(one, other)
                    self.assertEqual(list(rows), sorted(rows))
                    texts = [one[old] for old, new in rows]
                    self.assertEqual(texts, [other[new] for old, new in rows])
                    for text in ('x', 'y'):
                        gone = sorted(path for path in one if one[path] == text and path not in other)
                        come = sorted(path for path in other if other[path] == text and path not in one)
                        wanted = list(zip(gone, come))
                        self.assertEqual([row for row in rows if one[row[0]] == text], wanted)


class TestChanged(FolderTest):
    TABLE = {'b': '2', 'a/c': '3', 'a/b': '1'}

    def test_changed(self):
        self.gives(changed(self.TABLE, [('b', 'new'), ('a/c', None), ('a/a', '0')]),
                   {'a/a': '0', 'a/b': '1', 'b': 'new'})
        self.gives(changed(self.TABLE, (['b', ''],)), {'a/b': '1', 'a/c': '3', 'b': ''})
        self.gives(changed(self.TABLE, ()), {'a/b': '1', 'a/c': '3', 'b': '2'})
        self.gives(changed({}, []), {})
        self.gives(changed({}, [('b', '1'), ('a', '2')]), {'a': '2', 'b': '1'})
        self.gives(changed({'a': 'x'}, [('a', None)]), {})

    def test_what_is_left_out_goes_first(self):
        left_out = [('a/b', None), ('a/c', None)]
        for changes in ([('a', 'x')] + left_out, left_out + [('a', 'x')]):
            self.gives(changed(self.TABLE, changes), {'a': 'x', 'b': '2'})
        self.gives(changed({'a': 'x'}, [('a/b', 'y'), ('a', None)]), {'a/b': 'y'})
        self.gives(changed({'a': 'x'}, [('a', 'y'), ('a', None)]), {'a': 'y'})

    def test_the_last_text_of_a_path_stands(self):
        self.gives(changed({'a': 'x'}, [('a', 'y'), ('a', 'z')]), {'a': 'z'})

    def refuses(self, table, changes):
        with self.subTest(table=table, changes=changes):
            rows, was = list(table.items()), [tuple(row) for row in changes]
            with self.assertRaises(BadPath):
                changed(table, changes)
            self.assertEqual(list(table.items()), rows)
            self.assertEqual([tuple(row) for row in changes], was)

    def test_leaving_out_what_is_not_there(self):
        for table in ({}, {'b': 'x'}, {'a/b': 'x'}, {'ab': 'x'}):
            self.refuses(table, [('a', None)])
            self.refuses(table, [('a', 'x'), ('a', None)])
            self.refuses(table, [('c', 'x'), ['a', None]])
        self.refuses({'a': 'x'}, [('a', None), ('a', None)])
        self.refuses({'a': 'x'}, [('a/b', None)])
        self.refuses({'a': 'x'}, [('', None)])

    def test_what_can_not_stand_together(self):
        self.refuses({}, [('a', 'x'), ('a/b', 'y')])
        self.refuses({'a': 'x'}, [('a/b', 'y')])
        self.refuses({'a': 'x', 'a-b': 'y'}, [('a/b/c', 'y')])
        self.refuses({'a/b': 'x'}, [('a', 'y')])
        self.refuses({'a/b': 'x', 'a/c': 'x'}, [('a', 'y'), ('a/b', None)])

    def test_paths_that_can_not_be(self):
        for path in BAD_PATHS:
            self.refuses({'k': 'x'}, [(path, 'x')])

    def test_bad_folders(self):
        self.refuses_bad_folders(lambda table: changed(table, ()))
        # Changes that would mend the folder don't make it one that can be handed in.
        self.refuses({'a': 'x', 'a/b': 'y'}, [('a/b', None)])
        self.refuses({'A': 'x'}, [('A', None)])

    def test_nothing_handed_in_changes(self):
        table, changes = dict(self.TABLE), [('b', 'new'), ['a/c', None]]
        changed(table, changes)['z'] = ''
        self.assertEqual(list(table.items()), list(self.TABLE.items()))
        self.assertEqual(changes, [('b', 'new'), ['a/c', None]])

    def test_changes_lead_from_any_folder_to_any_other(self):
        folders = small_folders()
        self.assertEqual(len(folders), 45)
        for one in folders:
            for other in folders:
                self.gives(changed(one, changes_to(one, other)), dict(sorted(other.items())))


class TestSizeAndTwins(FolderTest):
    def test_size_of(self):
        self.assertEqual(size_of({}), 0)
        self.assertEqual(size_of({'a': ''}), 0)
        self.assertEqual(size_of({'a': 'xyz', 'b/c': 'xyz', 'd': '\n', 'e': ''}), 7)

    def test_twins(self):
        self.gives(twins({'e': 'x', 'b': 'y', 'd/a': 'x', 'c': 'y', 'a': 'z', 'd-a': 'x'}),
                   (('b', 'c'), ('d-a', 'd/a', 'e')))
        self.gives(twins({'z': '1', 'y': '2', 'x': '1', 'w': '2'}), (('w', 'y'), ('x', 'z')))
        self.gives(twins({'a': '', 'b': ''}), (('a', 'b'),))

    def test_no_twins(self):
        self.gives(twins({}), ())
        self.gives(twins({'a': 'x'}), ())
        self.gives(twins({'a': 'x', 'b': 'X', 'c': 'xx', 'd': ''}), ())

    def test_bad_folders(self):
        self.refuses_bad_folders(twins)

    def test_nothing_handed_in_changes(self):
        for table in GOOD_FOLDERS:
            rows = list(table.items())
            twins(table)
            size_of(table)
            check_folder(table)
            self.assertEqual(list(table.items()), rows)


if __name__ == '__main__':
    unittest.main()
