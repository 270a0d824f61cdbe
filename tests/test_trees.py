"""Point 5, trees, and point 1 as far as it speaks of keepwright.trees."""

import unittest

from checks import Checks, small_folders, state
from keepwright.cuts import told
from keepwright.errors import BadPath, BadPiece, NoSuch
from keepwright.stores import Store
from keepwright.trees import (BOUNDS, body, both_trees, get_folder, get_path, get_text, needs, paths_at, put_folder,
                              put_text, rows_of, unlike, words_of)

LONG = 'the quick brown fox jumps over the lazy dog\nand all that, the quick brown fox jumps over it again'
FOLDERS = (
    {},
    {'a': ''},
    {'a': 'x'},
    {'b': LONG, 'a': 'x', 'c': ''},
    {'n/a': 'x', 'n/b': LONG},
    {'n/b/c': LONG, 'n/b/a': '', 'n/a': 'x y', 'm': '4', 'n-o': LONG, 'n/b-c': '6', 'n.a/b': 'x'},
    {'a/b/c/d/e/f': 'x', 'a/b/c/d/e-f': 'y', 'a/b.c': LONG},
    {'a/p': 'x/y z', 'a/q': ' ', 'a/r': '/', 'a/s': '\n', 'a/t': 'p', 'a/u': 'l', 'a/v': 't'},
)
DEEP = {'m': '4', 'n/a': LONG, 'n/b/c': 'x', 'n/b/d': LONG, 'o/b/c': 'x', 'o/b/d': LONG}


def put_by_hand(store, kind, *words):
    """Put a piece in that names others: the words of a list with blanks, the rows of a tree with strokes."""
    return store.put(kind + (' ' if kind == 'l' else '/').join(words))


class TestTexts(Checks):
    def test_bounds(self):
        self.gives(BOUNDS, (4, 12, 3, 5))

    def test_a_bare_text_is_a_list_of_none(self):
        store = Store()
        name = put_text(store, '')
        self.gives(store.pieces, {name: 'l'})
        self.gives(get_text(store, name), '')

    def test_a_text_of_one_piece(self):
        store = Store()
        name = put_text(store, 'abc')
        piece = store.find('pabc')
        self.gives(store.get(name), f'l{piece}')
        self.gives(len(store.pieces), 2)

    def test_a_text_of_many_pieces(self):
        store = Store()
        name = put_text(store, LONG)
        pieces = told(LONG, 4, 12, 3, 5)
        self.assertGreater(len(pieces), 5)
        self.gives(store.get(name), 'l' + ' '.join(store.find('p' + piece) for piece in pieces))
        self.gives(len(store.pieces), len(set(pieces)) + 1)
        self.gives(get_text(store, name), LONG)

    def test_a_text_that_has_one_piece_many_times(self):
        store = Store()
        name = put_text(store, 'a' * 60)
        self.gives(store.get(name), 'l' + ' '.join([store.find('p' + 'a' * 12)] * 5))
        self.gives(len(store.pieces), 2)
        self.gives(get_text(store, name), 'a' * 60)

    def test_texts_come_back(self):
        store = Store()
        texts = ['', 'p', 'l', 't', ' ', '/', '\n', 'a/b c', LONG, LONG[1:], LONG + LONG, 'a' * 12, 'a' * 13, 'AAA',
                 'PeQ']
        names = [put_text(store, text) for text in texts]
        self.assertEqual(len(set(names)), len(texts))
        for name, text in zip(names, texts):
            self.gives(get_text(store, name), text)
            self.gives(put_text(store, text), name)

    def test_pieces_of_one_figure_in_a_list(self):
        store = Store()
        one, other = put_text(store, 'AAA'), put_text(store, 'PeQ')
        self.assertEqual(store.find('pAAA').partition('.')[0], store.find('pPeQ').partition('.')[0])
        self.gives(get_text(store, one), 'AAA')
        self.gives(get_text(store, other), 'PeQ')

    def test_words_of(self):
        self.gives(words_of(''), [])
        self.gives(words_of('a'), ['a'])
        self.gives(words_of('7.0 12.3 7.0'), ['7.0', '12.3', '7.0'])
        self.gives(words_of('a\nb c'), ['a\nb', 'c'])

    def test_words_of_is_a_list_of_its_own(self):
        words_of('').append('x')
        self.gives(words_of(''), [])


class TestKinds(Checks):
    def setUp(self):
        self.store = Store()
        self.piece = self.store.put('pxyz')
        self.list = put_by_hand(self.store, 'l', self.piece, self.piece)
        self.tree = put_by_hand(self.store, 't', f'a {self.list}')
        self.bare = self.store.put('')
        self.odd = self.store.put('qxyz')
        self.hurt = '9.0'
        self.store.pieces[self.hurt] = 'pxyz'

    def test_body(self):
        self.gives(body(self.store, self.piece, 'p'), 'xyz')
        self.gives(body(self.store, self.list, 'l'), f'{self.piece} {self.piece}')
        self.gives(body(self.store, self.tree, 't'), f'a {self.list}')
        self.gives(body(self.store, self.store.put('l'), 'l'), '')

    def test_body_of_another_kind(self):
        for name in (self.piece, self.list, self.tree, self.bare, self.odd):
            for kind in ('p', 'l', 't'):
                if self.store.get(name)[:1] != kind:
                    self.refuses(BadPiece, lambda: body(self.store, name, kind), self.store)

    def test_get_text_of_another_kind(self):
        self.gives(get_text(self.store, self.list), 'xyzxyz')
        for name in (self.piece, self.tree, self.bare, self.odd):
            self.refuses(BadPiece, lambda: get_text(self.store, name), self.store)
            inner = put_by_hand(self.store, 'l', self.piece, name)
            if name != self.piece:
                self.refuses(BadPiece, lambda: get_text(self.store, inner), self.store)
        inner = put_by_hand(self.store, 'l', self.list)
        self.refuses(BadPiece, lambda: get_text(self.store, inner), self.store)

    def test_rows_of(self):
        tree = put_by_hand(self.store, 't', f'a {self.list}', f'b {self.tree}', f'b-c {self.list}')
        self.gives(rows_of(self.store, tree), (('a', self.list), ('b', self.tree), ('b-c', self.list)))
        self.gives(rows_of(self.store, self.store.put('t')), ())

    def test_rows_and_folders_of_another_kind(self):
        for name in (self.piece, self.list, self.bare, self.odd):
            for ask in (rows_of, get_folder):
                self.refuses(BadPiece, lambda: ask(self.store, name), self.store)
            self.refuses(BadPiece, lambda: get_path(self.store, name, 'a'), self.store)
        for name in (self.piece, self.bare, self.odd):
            tree = put_by_hand(self.store, 't', f'a {name}')
            self.refuses(BadPiece, lambda: get_folder(self.store, tree), self.store)
            self.refuses(BadPiece, lambda: paths_at(self.store, tree, ''), self.store)
            self.refuses(BadPiece, lambda: get_path(self.store, tree, 'a/b'), self.store)
            self.refuses(NoSuch, lambda: get_path(self.store, tree, 'a'), self.store)

    def test_names_that_are_not_there(self):
        asks = (get_text, rows_of, get_folder, needs)
        for ask in asks:
            self.refuses(NoSuch, lambda: ask(self.store, 'no.0'), self.store)
        self.refuses(NoSuch, lambda: body(self.store, 'no.0', 'p'), self.store)
        self.refuses(NoSuch, lambda: get_path(self.store, 'no.0', 'a'), self.store)
        self.refuses(NoSuch, lambda: paths_at(self.store, 'no.0', ''), self.store)
        self.refuses(NoSuch, lambda: both_trees(self.store, 'no.0', self.tree), self.store)
        self.refuses(NoSuch, lambda: both_trees(self.store, self.tree, 'no.0'), self.store)
        self.refuses(NoSuch, lambda: unlike(self.store, 'no.0', self.tree), self.store)
        self.refuses(NoSuch, lambda: unlike(self.store, self.tree, 'no.0'), self.store)
        inner = put_by_hand(self.store, 'l', self.piece, 'no.0')
        for ask in (get_text, needs):
            self.refuses(NoSuch, lambda: ask(self.store, inner), self.store)
        tree = put_by_hand(self.store, 't', 'a no.0')
        for ask in (get_folder, needs):
            self.refuses(NoSuch, lambda: ask(self.store, tree), self.store)

    def test_names_that_are_broken(self):
        for ask in (get_text, rows_of, get_folder, needs):
            self.refuses(BadPiece, lambda: ask(self.store, self.hurt), self.store)
        for kind in ('p', 'l', 't'):
            self.refuses(BadPiece, lambda: body(self.store, self.hurt, kind), self.store)
        self.refuses(BadPiece, lambda: get_path(self.store, self.hurt, 'a'), self.store)
        self.refuses(BadPiece, lambda: paths_at(self.store, self.hurt, ''), self.store)
        self.refuses(BadPiece, lambda: both_trees(self.store, self.tree, self.hurt), self.store)
        self.refuses(BadPiece, lambda: unlike(self.store, self.tree, self.hurt), self.store)
        self.refuses(BadPiece, lambda: unlike(self.store, self.hurt, self.tree), self.store)
        inner = put_by_hand(self.store, 'l', self.piece, self.hurt)
        for ask in (get_text, needs):
            self.refuses(BadPiece, lambda: ask(self.store, inner), self.store)
        tree = put_by_hand(self.store, 't', f'a {self.hurt}')
        for ask in (get_folder, needs):
            self.refuses(BadPiece, lambda: ask(self.store, tree), self.store)

    def test_a_tree_of_paths_that_can_not_be(self):
        for word in ('', '.', '..', 'A', 'a='):
            tree = put_by_hand(self.store, 't', f'{word} {self.list}')
            self.refuses(BadPath, lambda: get_folder(self.store, tree), self.store)


class TestTwoFaults(Checks):
    ONE = {'a': 'x', 'b/c': '', 'd': 'y'}
    OTHER = {'a': 'v', 'b/c': '', 'd': 'w'}

    def test_the_first_that_is_read_is_told(self):
        store = Store()
        name, other = put_folder(store, self.ONE), put_folder(store, self.OTHER)
        for texts in (('x', 'y'), ('y', 'x')):
            hurt = Store(store.shown())
            for text, change in zip(texts, (hurt.drop, lambda each: hurt.pieces.update({each: ''}))):
                change(store.find('p' + text))
            kind = NoSuch if texts[0] == 'x' else BadPiece
            for ask in (get_folder, needs):
                self.refuses(kind, lambda: ask(hurt, name), hurt)

    def test_of_lists_too(self):
        store = Store()
        name, other = put_folder(store, self.ONE), put_folder(store, self.OTHER)
        lists = dict(rows_of(store, name))
        for first, second in (('a', 'd'), ('d', 'a')):
            hurt = Store(store.shown())
            hurt.drop(lists[first])
            hurt.pieces[lists[second]] = ''
            kind = NoSuch if first == 'a' else BadPiece
            self.refuses(kind, lambda: paths_at(hurt, name, ''), hurt)
            self.refuses(kind, lambda: unlike(hurt, name, other), hurt)
            self.refuses(kind, lambda: unlike(hurt, other, name), hurt)
            self.refuses(kind, lambda: unlike(hurt, name, None), hurt)


class TestFolders(Checks):
    def test_what_is_put_comes_back(self):
        store = Store()
        names = [put_folder(store, table) for table in FOLDERS]
        self.assertEqual(len(set(names)), len(FOLDERS))
        for name, table in zip(names, FOLDERS):
            with self.subTest(table=table):
                self.gives(get_folder(store, name), dict(sorted(table.items())))

    def test_all_small_folders(self):
        store = Store()
        names = {}
        for table in small_folders():
            rows = state(table)
            name = put_folder(store, table)
            self.assertEqual(state(table), rows)
            self.gives(get_folder(store, name), dict(sorted(table.items())))
            self.gives(put_folder(store, dict(sorted(table.items(), reverse=True))), name)
            names[name] = table
        self.assertEqual(len(names), len(small_folders()))

    def test_the_pieces_of_a_bare_folder(self):
        store = Store()
        name = put_folder(store, {})
        self.gives(store.pieces, {name: 't'})

    def test_the_pieces_of_a_flat_folder(self):
        store = Store()
        name = put_folder(store, {'b': 'x', 'a': '', 'a-b': 'x'})
        bare, text = put_text(store, ''), put_text(store, 'x')
        self.gives(store.get(name), f'ta {bare}/a-b {text}/b {text}')
        self.gives(sorted(piece[:1] for piece in store.pieces.values()), ['l', 'l', 'p', 't'])

    def test_rows_are_in_order_of_names(self):
        # "a" is ahead of "a-b", though the path "a-b" is ahead of "a/c".
        store = Store()
        name = put_folder(store, {'a-b': 'x', 'a/c': 'y'})
        inner = put_folder(store, {'c': 'y'})
        self.gives(rows_of(store, name), (('a', inner), ('a-b', put_text(store, 'x'))))

    def test_alike_texts_and_parts_stand_once(self):
        store = Store()
        name = put_folder(store, DEEP)
        rows = dict(rows_of(store, name))
        self.gives(dict(rows_of(store, rows['n']))['b'], dict(rows_of(store, rows['o']))['b'])
        self.assertEqual(len(set(store.pieces.values())), len(store.pieces))
        many = len(store.pieces)
        self.gives(put_folder(store, {'c': 'x', 'd': LONG}), dict(rows_of(store, rows['o']))['b'])
        self.gives(put_folder(store, DEEP), name)
        self.gives(len(store.pieces), many)

    def test_folders_that_can_not_be(self):
        for table in ({'': 'x'}, {'A': 'x'}, {'a': 'x', 'b/': 'y'}, {'a': 'x', 'a-b': 'y', 'a/b': 'z'},
                      {'b': 'x', '.': 'y'}, {'n/a/b': 'x', 'n/a/b/c': 'y'}):
            for store in (Store(), Store((('7.0', ''),))):
                self.refuses(BadPath, lambda: put_folder(store, table), store, table)

    def test_pieces_of_one_figure(self):
        store = Store()
        table = {'a': 'AAA', 'b/c': 'PeQ', 'b/d': 'AAA'}
        self.gives(get_folder(store, put_folder(store, table)), table)

    def test_a_broken_piece_is_not_taken_for_a_right_one(self):
        store = Store()
        first = put_folder(store, {'a': 'x'})
        name = store.find('px')
        store.pieces[name] = 'py'
        second = put_folder(store, {'a': 'x'})
        self.gives(get_folder(store, second), {'a': 'x'})
        self.refuses(BadPiece, lambda: get_folder(store, first), store)

    def test_a_path_of_many_names(self):
        store = Store()
        table = {'/'.join(['a'] * 200): 'x', 'b': ''}
        name = put_folder(store, table)
        self.gives(get_folder(store, name), table)
        self.gives(unlike(store, name, put_folder(store, {'b': ''})), ('/'.join(['a'] * 200),))


class TestPath(Checks):
    def setUp(self):
        self.store = Store()
        self.name = put_folder(self.store, DEEP)

    def test_texts(self):
        for path, text in DEEP.items():
            self.gives(get_path(self.store, self.name, path), text)
        self.gives(get_path(self.store, put_folder(self.store, {'a': ''}), 'a'), '')

    def test_what_a_text_lies_within(self):
        for path in ('n', 'n/b', 'o', 'o/b'):
            self.refuses(NoSuch, lambda: get_path(self.store, self.name, path), self.store)

    def test_what_is_not_there(self):
        for path in ('', 'p', 'mm', 'm/a', 'n/c', 'n/a/c', 'n/b/c/d', 'n/', '/m', 'm/', 'n//a', 'N', 'b', 'b/c', '.',
                     'n/b/'):
            self.refuses(NoSuch, lambda: get_path(self.store, self.name, path), self.store)
        bare = put_folder(self.store, {})
        self.refuses(NoSuch, lambda: get_path(self.store, bare, 'a'), self.store)

    def test_only_what_leads_there_is_read(self):
        for path, text in DEEP.items():
            leads = [self.name]
            for word in path.split('/'):
                leads.append(dict(rows_of(self.store, leads[-1]))[word])
            leads.extend(words_of(body(self.store, leads[-1], 'l')))
            store = Store([(name, self.store.get(name)) for name in leads])
            self.gives(get_path(store, self.name, path), text)
            for name in set(leads):
                less = Store([row for row in store.shown() if row[0] != name])
                self.refuses(NoSuch, lambda: get_path(less, self.name, path), less)
                hurt = Store([(each, piece + ('' if each != name else '?')) for each, piece in store.shown()])
                self.refuses(BadPiece, lambda: get_path(hurt, self.name, path), hurt)


class TestNeeds(Checks):
    def test_a_piece_and_a_list(self):
        store = Store()
        name = put_text(store, 'abc')
        piece = store.find('pabc')
        self.gives(needs(store, piece), (piece,))
        self.gives(needs(store, name), tuple(sorted((name, piece))))
        bare = put_text(store, '')
        self.gives(needs(store, bare), (bare,))
        name = put_text(store, 'a' * 60)
        self.gives(needs(store, name), tuple(sorted((name, store.find('p' + 'a' * 12)))))

    def test_all_and_only_what_is_read_to_give_it_back(self):
        for table in FOLDERS + (DEEP,):
            store = Store()
            other = put_folder(store, {'z': 'another ' + LONG})
            name = put_folder(store, table)
            names = needs(store, name)
            self.gives(names, tuple(sorted(set(names))))
            self.assertNotIn(other, names)
            small = Store([row for row in store.shown() if row[0] in names])
            self.gives(get_folder(small, name), dict(sorted(table.items())))
            for each in names:
                less = Store([row for row in small.shown() if row[0] != each])
                self.refuses(NoSuch, lambda: get_folder(less, name), less)
                self.refuses(NoSuch, lambda: needs(less, name), less)

    def test_a_list_within_a_tree(self):
        store = Store()
        put_folder(store, DEEP)
        name = put_text(store, LONG)
        wanted = {name} | {store.find('p' + piece) for piece in told(LONG, 4, 12, 3, 5)}
        self.gives(needs(store, name), tuple(sorted(wanted)))

    def test_a_bare_tree(self):
        store = Store()
        name = put_folder(store, {})
        self.gives(needs(store, name), (name,))

    def test_another_kind(self):
        store = Store()
        for piece in ('', 'qx'):
            name = store.put(piece)
            self.refuses(BadPiece, lambda: needs(store, name), store)


class TestUnlike(Checks):
    ONE = {'a': 'x', 'b/c': LONG, 'b/d': 'y', 'e/f/g': '1', 'e/f/h': '2', 'i': '3'}

    def between(self, one, other, wanted):
        store = Store()
        first, second = put_folder(store, one), put_folder(store, other)
        self.gives(unlike(store, first, second), wanted)
        self.gives(unlike(store, second, first), wanted)
        self.gives(unlike(store, first, second, 'k/l'), tuple('k/l/' + path for path in wanted))
        self.gives(unlike(store, first, second, head='k'), tuple('k/' + path for path in wanted))

    def test_alike_names_are_not_read(self):
        self.gives(unlike(Store(), 'no.0', 'no.0'), ())
        self.gives(unlike(Store(), None, None), ())
        self.between(self.ONE, self.ONE, ())

    def test_changed_put_in_left_out(self):
        self.between(self.ONE, {**self.ONE, 'b/d': 'z'}, ('b/d',))
        self.between(self.ONE, {**self.ONE, 'b/d': ''}, ('b/d',))
        self.between(self.ONE, {**self.ONE, 'b/e': 'y'}, ('b/e',))
        self.between(self.ONE, {**self.ONE, 'k': 'y'}, ('k',))
        self.between(self.ONE, {**self.ONE, 'e/f/g': '2', 'e/f/h': '1', 'a': LONG}, ('a', 'e/f/g', 'e/f/h'))
        self.between(self.ONE, {'i': '3'}, ('a', 'b/c', 'b/d', 'e/f/g', 'e/f/h'))
        self.between(self.ONE, {}, tuple(sorted(self.ONE)))

    def test_a_text_in_the_place_of_a_folder(self):
        self.between({'a': 'x', 'b': 'y'}, {'a/b': 'x', 'b': 'y'}, ('a', 'a/b'))
        self.between({'a/b/c': 'x', 'a/b/d': 'x'}, {'a': 'x'}, ('a', 'a/b/c', 'a/b/d'))
        self.between({'a/b/c': 'x', 'a/b/d': 'x'}, {'a/b': 'x', 'a/c': ''}, ('a/b', 'a/b/c', 'a/b/d', 'a/c'))

    def test_in_order_of_paths(self):
        self.between({'a/c': 'x', 'a-b': 'x', 'a.': 'y', 'a0': 'z', 'b/-': '1'}, {},
                     ('a-b', 'a.', 'a/c', 'a0', 'b/-'))
        self.between({'a/c': 'x', 'a-b': 'x'}, {'a': 'y', 'a-b': 'y'}, ('a', 'a-b', 'a/c'))

    def test_all_small_folders(self):
        store = Store()
        rows = [(table, put_folder(store, table)) for table in small_folders()]
        for one, first in rows:
            for other, second in rows:
                wanted = sorted(path for path in {**one, **other} if one.get(path) != other.get(path))
                self.assertEqual(unlike(store, first, second), tuple(wanted))

    def test_alike_parts_are_not_read(self):
        store = Store()
        first, second = put_folder(store, self.ONE), put_folder(store, {**self.ONE, 'b/d': 'z'})
        rows = [rows_of(store, name) for name in (first, second)]
        inner = [dict(row)['b'] for row in rows]
        texts = [dict(rows_of(store, name))['d'] for name in inner]
        read = (first, second, *inner, *texts)
        small = Store([(name, store.get(name)) for name in read])
        self.gives(unlike(small, first, second), ('b/d',))

    def test_lists_and_none(self):
        store = Store()
        one, other, tree = put_text(store, 'x'), put_text(store, LONG), put_folder(store, {'a/b': 'x', 'c': ''})
        self.gives(unlike(store, one, other, 'k'), ('k',))
        self.gives(unlike(store, one, None, 'k'), ('k',))
        self.gives(unlike(store, None, one, 'k'), ('k',))
        self.gives(unlike(store, None, tree, 'k'), ('k/a/b', 'k/c'))
        self.gives(unlike(store, tree, None), ('a/b', 'c'))
        self.gives(unlike(store, tree, one, 'k'), ('k', 'k/a/b', 'k/c'))

    def test_both_trees(self):
        store = Store()
        text, piece = put_text(store, 'x'), store.put('px')
        tree, other = put_folder(store, {}), put_folder(store, {'a': 'x'})
        self.gives(both_trees(store, tree, other), True)
        self.gives(both_trees(store, tree, tree), True)
        for one, another in ((text, tree), (tree, text), (text, text), (None, tree), (tree, None), (None, None),
                             (piece, tree), (None, text)):
            self.gives(both_trees(store, one, another), False)

    def test_paths_at(self):
        store = Store()
        self.gives(paths_at(store, None, ''), [])
        self.gives(paths_at(store, None, 'k'), [])
        text, tree = put_text(store, LONG), put_folder(store, {'a/b/c': 'x', 'a/d': LONG, 'a-b': '', 'e': 'x'})
        self.gives(paths_at(store, text, 'k/l'), ['k/l'])
        self.gives(paths_at(store, tree, ''), ['a-b', 'a/b/c', 'a/d', 'e'])
        self.gives(paths_at(store, tree, 'k'), ['k/a-b', 'k/a/b/c', 'k/a/d', 'k/e'])
        self.gives(paths_at(store, put_folder(store, {}), 'k'), [])
        # Texts aren't read.
        for name in store.names():
            if store.get(name)[:1] == 'p':
                store.drop(name)
        self.gives(paths_at(store, tree, ''), ['a-b', 'a/b/c', 'a/d', 'e'])

    def test_a_piece_is_neither_a_text_nor_a_tree(self):
        store = Store()
        piece, tree = store.put('px'), put_folder(store, {})
        self.refuses(BadPiece, lambda: paths_at(store, piece, 'k'), store)
        self.refuses(BadPiece, lambda: unlike(store, piece, tree), store)
        self.refuses(BadPiece, lambda: unlike(store, None, piece), store)


if __name__ == '__main__':
    unittest.main()
