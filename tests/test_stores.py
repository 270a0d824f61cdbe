"""Point 4, stores, and points 1 and 18 as far as they speak of keepwright.stores."""

import unittest
from itertools import product

from checks import Checks, state
from keepwright.errors import BadPiece, NoSuch
from keepwright.stores import BASE, WIDE, Store, copied, figure, mended, missing

# The two have one figure.
ONE = 'AAA'
OTHER = 'PeQ'
FIRST = '131737.0'
SECOND = '131737.1'
# A piece under the name of another figure.
HURT = {FIRST: 'BBB'}


class TestFigure(Checks):
    def test_figures_told(self):
        self.gives(figure(''), 7)
        self.gives(figure('a'), 7 * 257 + 97)
        self.gives(figure('ab'), (7 * 257 + 97) * 257 + 98)
        self.gives(figure(ONE), 131737)
        self.gives(figure(OTHER), 131737)

    def test_the_numbers_told(self):
        self.gives(BASE, 257)
        self.gives(WIDE, 1000003)

    def test_figures_worked_out_in_one(self):
        for text in ('abc', 'the quick brown fox\n', '\u00e9\u20ac', 'z' * 100, '\x00', '\x00\x00', ' '):
            with self.subTest(text=text):
                total = 7 * 257 ** len(text)
                for place, sign in enumerate(reversed(text)):
                    total += ord(sign) * 257 ** place
                self.gives(figure(text), total % 1000003)

    def test_order_and_length_tell(self):
        texts = [''.join(signs) for count in range(5) for signs in product('ab', repeat=count)]
        self.assertEqual(len({figure(text) for text in texts}), len(texts))


class TestPut(Checks):
    def test_a_bare_store(self):
        store = Store()
        self.gives(store.pieces, {})
        self.gives(store.names(), ())
        self.gives(store.shown(), ())
        self.gives(store.broken(), ())
        self.gives(store.size(), 0)

    def test_put(self):
        store = Store()
        self.gives(store.put(ONE), FIRST)
        self.gives(store.put(''), '7.0')
        self.gives(store.put('a'), '1896.0')
        self.gives(store.shown(), ((FIRST, ONE), ('1896.0', 'a'), ('7.0', '')))

    def test_a_piece_that_is_there_stands_once(self):
        store = Store()
        for piece in (ONE, '', OTHER):
            name = store.put(piece)
            was = state(store)
            self.gives(store.put(piece), name)
            self.assertEqual(state(store), was)

    def test_pieces_of_one_figure(self):
        store = Store()
        self.gives(store.put(ONE), FIRST)
        self.gives(store.put(OTHER), SECOND)
        self.gives(store.put(ONE), FIRST)
        self.gives(store.put(OTHER), SECOND)
        self.gives(store.get(FIRST), ONE)
        self.gives(store.get(SECOND), OTHER)
        store = Store()
        self.gives(store.put(OTHER), FIRST)
        self.gives(store.put(ONE), SECOND)

    def test_behind_a_drop_of_the_first_of_two(self):
        store = Store(((FIRST, ONE), (SECOND, OTHER)))
        store.drop(FIRST)
        self.gives(store.find(OTHER), SECOND)
        self.gives(store.put(OTHER), SECOND)
        self.gives(store.put(ONE), FIRST)
        store.drop(FIRST)
        store.drop(SECOND)
        self.gives(store.put(OTHER), FIRST)

    def test_the_least_free_number(self):
        store = Store((('7.0', 'broken'), ('7.1', 'broken too'), ('7.3', 'broken as well')))
        self.gives(store.put(''), '7.2')
        self.gives(store.put('a'), '1896.0')
        self.gives(store.put('b'), '1897.0')

    def test_more_than_ten_of_one_figure(self):
        store = Store([(f'131737.{number}', 'x') for number in range(11)])
        self.gives(store.put(OTHER), '131737.11')
        self.gives(store.find(OTHER), '131737.11')

    def test_a_piece_put_in_twice_from_outside(self):
        store = Store((('7.3', ''), ('7.10', ''), ('7.2', '')))
        self.gives(store.find(''), '7.10')
        self.gives(store.put(''), '7.10')
        self.gives(len(store.pieces), 3)

    def test_a_piece_under_the_name_of_another_is_not_there(self):
        for table in (HURT, {'5.0': 'BBB'}, {'7.0': 'BBB'}):
            store = Store(table.items())
            self.gives(store.find('BBB'), None)
            self.gives(store.put('BBB'), f'{figure("BBB")}.0')
            self.gives(store.get(f'{figure("BBB")}.0'), 'BBB')

    def test_rows_of_a_new_store(self):
        for rows in (((FIRST, ONE), ('5.0', 'x')), [[FIRST, ONE], ['5.0', 'x']], ([FIRST, ONE], ('5.0', 'x'))):
            self.gives(Store(rows).pieces, {FIRST: ONE, '5.0': 'x'})

    def test_stores_have_tables_of_their_own(self):
        one, other = Store(), Store()
        one.put('a')
        self.gives(other.pieces, {})
        self.gives(Store().pieces, {})


class TestGetFindDrop(Checks):
    def setUp(self):
        self.store = Store(((FIRST, ONE), (SECOND, OTHER), ('1896.0', 'b')))

    def test_what_is_there(self):
        self.gives(self.store.get(SECOND), OTHER)
        self.gives(self.store.find(ONE), FIRST)
        self.gives(self.store.find(OTHER), SECOND)
        self.gives(self.store.drop(FIRST), None)
        self.gives(self.store.pieces, {SECOND: OTHER, '1896.0': 'b'})

    def test_what_is_not_there(self):
        for name in ('', '7.0', '131737.2', '131737', ONE):
            self.refuses(NoSuch, lambda: self.store.get(name), self.store)
            self.refuses(NoSuch, lambda: self.store.drop(name), self.store)
        for piece in ('', 'a', 'b', 'AA', 'PeQAAA', FIRST):
            self.gives(self.store.find(piece), None)
        self.store.drop(SECOND)
        self.refuses(NoSuch, lambda: self.store.get(SECOND), self.store)
        self.refuses(NoSuch, lambda: self.store.drop(SECOND), self.store)
        self.gives(self.store.find(OTHER), None)

    def test_a_broken_piece(self):
        self.refuses(BadPiece, lambda: self.store.get('1896.0'), self.store)
        self.gives(self.store.drop('1896.0'), None)
        self.gives(self.store.names(), (FIRST, SECOND))

    def test_the_whole_figure_is_held(self):
        # The figure of the bare text is 7.
        for name in ('77.0', '.7', '', '07.0', '.0', '7 .0', '70'):
            self.refuses(BadPiece, lambda: Store(((name, ''),)).get(name))
        self.gives(Store((('7.12', ''),)).get('7.12'), '')

    def test_asking_changes_nothing(self):
        was = state(self.store)
        for ask in (self.store.names, self.store.size, self.store.broken, self.store.shown):
            ask()
        self.store.get(FIRST)
        self.store.find('no piece')
        missing(self.store, ('x',))
        self.assertEqual(state(self.store), was)


class TestShown(Checks):
    def test_in_order_of_their_words(self):
        store = Store((('9.0', 'abc'), ('10.0', ''), ('10.10', 'x'), ('10.2', 'yz')))
        self.gives(store.names(), ('10.0', '10.10', '10.2', '9.0'))
        self.gives(store.shown(), (('10.0', ''), ('10.10', 'x'), ('10.2', 'yz'), ('9.0', 'abc')))
        self.gives(store.broken(), ('10.0', '10.10', '10.2', '9.0'))
        self.gives(store.size(), 6)

    def test_behind_changes_from_outside(self):
        store = Store()
        store.put('abc')
        name = store.put('de')
        store.pieces['7.0'] = ''
        store.pieces['1896.0'] = 'a'
        self.gives(store.names(), tuple(sorted(('1896.0', '7.0', f'{figure("abc")}.0', name))))
        self.gives(store.size(), 6)
        self.gives(store.broken(), ())
        self.gives(store.put(''), '7.0')
        self.gives(store.find('a'), '1896.0')
        store.pieces['7.0'] = 'another'
        store.pieces[name] = 'd'
        self.gives(store.broken(), tuple(sorted(('7.0', name))))
        self.refuses(BadPiece, lambda: store.get(name), store)
        self.gives(store.find('de'), None)
        self.gives(store.find('another'), None)
        del store.pieces['1896.0']
        self.gives(store.find('a'), None)
        self.refuses(NoSuch, lambda: store.get('1896.0'), store)
        store.pieces = {'7.5': ''}
        self.gives(store.shown(), (('7.5', ''),))
        self.gives(store.put(''), '7.5')
        store.pieces.clear()
        self.gives(store.put(''), '7.0')


class TestCopied(Checks):
    def setUp(self):
        self.store = Store(((FIRST, ONE), (SECOND, OTHER), ('7.0', ''), ('1896.0', 'b')))
        self.was = state(self.store)

    def tearDown(self):
        self.assertEqual(state(self.store), self.was)

    def test_into_a_bare_store(self):
        other = Store()
        self.gives(copied(self.store, other, (SECOND, '7.0', FIRST)), (FIRST, SECOND, '7.0'))
        self.gives(other.shown(), ((FIRST, ONE), (SECOND, OTHER), ('7.0', '')))
        self.gives(copied(self.store, Store(), []), ())

    def test_into_one_that_has_some(self):
        other = Store((('7.0', ''), ('9.0', 'x')))
        self.gives(copied(self.store, other, ['7.0', FIRST]), (FIRST,))
        self.gives(other.shown(), ((FIRST, ONE), ('7.0', ''), ('9.0', 'x')))
        self.gives(copied(self.store, other, ['7.0', FIRST]), ())

    def test_where_a_piece_is_broken_it_is_mended_and_told(self):
        other = Store((('7.0', 'not bare'), (FIRST, ONE), ('9.0', 'x')))
        self.gives(copied(self.store, other, ('7.0', FIRST)), ('7.0',))
        self.gives(other.shown(), ((FIRST, ONE), ('7.0', ''), ('9.0', 'x')))

    def test_where_another_piece_stands(self):
        other = Store(((FIRST, OTHER),))
        self.refuses(BadPiece, lambda: copied(self.store, other, (FIRST,)), other)
        self.refuses(BadPiece, lambda: copied(self.store, other, ('7.0', FIRST)), other)
        self.refuses(BadPiece, lambda: copied(self.store, other, (FIRST, '7.0')), other)

    def test_names_that_are_not_there_or_broken(self):
        for other in (Store(), Store((('1896.0', 'a'), ('7.1', '')))):
            for names in (('1896.0',), (FIRST, '1896.0'), ('1896.0', FIRST)):
                self.refuses(BadPiece, lambda: copied(self.store, other, names), other)
            for names in (('7.1',), (FIRST, '7.1'), ('7.1', FIRST)):
                self.refuses(NoSuch, lambda: copied(self.store, other, names), other)

    def test_names_told_twice_and_the_store_itself(self):
        other = Store()
        self.gives(copied(self.store, other, (FIRST, FIRST)), (FIRST,))
        self.gives(copied(self.store, self.store, (FIRST, '7.0')), ())


class TestMissing(Checks):
    def test_missing(self):
        store = Store(((FIRST, ONE), ('5.0', 'broken')))
        names = [SECOND, FIRST, '9.0', '10.0', SECOND, '5.0', '9.0']
        self.gives(missing(store, names), ('10.0', SECOND, '9.0'))
        self.gives(names, [SECOND, FIRST, '9.0', '10.0', SECOND, '5.0', '9.0'])
        self.gives(missing(store, (FIRST, '5.0', FIRST)), ())
        self.gives(missing(store, ()), ())
        many = [f'{number}.0' for number in range(60)]
        self.gives(missing(store, many), tuple(sorted(name for name in many if name != '5.0')))
        self.gives(missing(Store(), (FIRST,)), (FIRST,))


class TestMended(Checks):
    def setUp(self):
        self.store = Store((('7.0', 'broken'), (FIRST, ONE), (SECOND, 'broken too')))

    def mends(self, other, wanted, pieces):
        was = state(other)
        self.gives(mended(self.store, other), wanted)
        self.assertEqual(self.store.pieces, pieces)
        self.assertEqual(state(other), was)

    def test_from_one_that_has_not_the_piece(self):
        pieces = dict(self.store.pieces)
        self.mends(Store(), (), pieces)
        self.mends(Store((('7.1', ''), ('9.0', 'x'))), (), pieces)

    def test_from_one_that_has_it_broken_too(self):
        self.mends(Store((('7.0', 'broken'), (SECOND, 'x'))), (), dict(self.store.pieces))

    def test_from_one_that_has_it_right(self):
        other = Store(((SECOND, OTHER), ('7.0', ''), ('9.0', 'x')))
        self.mends(other, (SECOND, '7.0'), {'7.0': '', FIRST: ONE, SECOND: OTHER})
        self.mends(other, (), {'7.0': '', FIRST: ONE, SECOND: OTHER})

    def test_one_right_and_one_not(self):
        self.mends(Store((('7.0', ''), (SECOND, 'x'))), ('7.0',), {'7.0': '', FIRST: ONE, SECOND: 'broken too'})

    def test_what_is_right_stays(self):
        self.mends(Store(((FIRST, OTHER),)), (), dict(self.store.pieces))


if __name__ == '__main__':
    unittest.main()
