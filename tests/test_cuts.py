"""Point 3, cuts, and point 1 as far as it speaks of keepwright.cuts."""

import unittest
from itertools import product

from keepwright.cuts import (check_bounds, check_pieces, even, fresh_signs, places_of, settled, shared_pieces, sums,
                             told)
from keepwright.errors import BadSize

BAD_BOUNDS = ((0, 0, 0), (1, 1, 0), (2, 3, -1), (0, 1, 1), (1, 2, 2), (3, 2, 1), (3, 2, 3), (2, 3, 4), (-1, 5, -2),
              (-2, -1, -3), (4, 0, 1), (4, -1, 1), (1, 0, 1))
TEXT = 'the quick brown fox jumps over the lazy dog\nand \u00e9 \u20ac again, the quick brown fox'


def told_by_trying(text, least, most, window, by):
    """Cut a text as point 3 words it: the first end that may be, again and again."""
    pieces = []
    while text != '':
        end = len(text)
        for count in range(least, len(text)):
            if count == most or sum(map(ord, text[count - window:count])) % by == 0:
                end = count
                break
        pieces.append(text[:end])
        text = text[end:]
    return tuple(pieces)


class CutTest(unittest.TestCase):
    def gives(self, answer, wanted):
        self.assertEqual(answer, wanted)
        self.assertIs(type(answer), type(wanted))


class TestBounds(CutTest):
    def test_good_bounds_come_back(self):
        for bounds in ((1, 1, 1), (4, 12, 3), (3, 3, 3), (2, 2, 1), (5, 9, 5), (1, 1000, 1)):
            with self.subTest(bounds=bounds):
                self.gives(check_bounds(*bounds), bounds)

    def test_bad_bounds(self):
        for bounds in BAD_BOUNDS:
            with self.subTest(bounds=bounds), self.assertRaises(BadSize):
                check_bounds(*bounds)


class TestEven(CutTest):
    def test_even(self):
        self.gives(even('abcdefg', 3), ('abc', 'def', 'g'))
        self.gives(even('abcdef', 3), ('abc', 'def'))
        self.gives(even('abc', 1), ('a', 'b', 'c'))
        self.gives(even('abc', 3), ('abc',))
        self.gives(even('abc', 4), ('abc',))
        self.gives(even('', 1), ())
        self.gives(even('', 9), ())

    def test_bad_sizes(self):
        for text in ('', 'abc'):
            for size in (0, -1, -3):
                with self.subTest(text=text, size=size), self.assertRaises(BadSize):
                    even(text, size)


class TestSums(CutTest):
    def test_sums(self):
        self.gives(sums('abc', 1), (97, 98, 99))
        self.gives(sums('abcd', 2), (195, 197, 199))
        self.gives(sums('abcd', 3), (294, 297))
        self.gives(sums('a \n\u20ac', 2), (129, 42, 8374))

    def test_texts_as_long_as_the_window_and_shorter(self):
        self.gives(sums('abc', 3), (294,))
        self.gives(sums('abc', 4), ())
        self.gives(sums('a', 2), ())
        self.gives(sums('', 1), ())

    def test_a_sum_for_each_place(self):
        for window in range(1, len(TEXT) + 2):
            wanted = tuple(sum(map(ord, TEXT[place - window:place])) for place in range(window, len(TEXT) + 1))
            self.gives(sums(TEXT, window), wanted)

    def test_bad_windows(self):
        for text in ('', 'abc'):
            for window in (0, -1, -4):
                with self.subTest(text=text, window=window), self.assertRaises(BadSize):
                    sums(text, window)


class TestTold(CutTest):
    def test_ends_where_the_number_goes_into_the_sum(self):
        # The numbers of "a", "b", "c" and "d" are 97, 98, 99 and 100.
        self.gives(told('abcdabcd', 1, 8, 1, 2), ('ab', 'cd', 'ab', 'cd'))
        self.gives(told('abcabcabc', 1, 9, 1, 99), ('abc', 'abc', 'abc'))
        self.gives(told('aabbaabb', 2, 8, 2, 194), ('aa', 'bbaa', 'bb'))

    def test_the_window_ends_with_the_last_sign_of_the_piece(self):
        self.gives(told('aaabaaaa', 1, 8, 1, 98), ('aaab', 'aaaa'))
        self.gives(told('aaabaaaa', 2, 8, 2, 195), ('aaab', 'aaaa'))
        self.gives(told('aaabaaaa', 3, 8, 3, 292), ('aaab', 'aaaa'))

    def test_no_end_ahead_of_the_least(self):
        self.gives(told('bbbbbbbb', 3, 8, 1, 2), ('bbb', 'bbb', 'bb'))
        self.gives(told('abaaabaa', 3, 8, 1, 98), ('abaaab', 'aa'))
        self.gives(told('aabaaabaa', 3, 8, 1, 98), ('aab', 'aaab', 'aa'))
        self.gives(told('baaabaaa', 4, 8, 2, 195), ('baaab', 'aaa'))

    def test_ends_at_the_most(self):
        self.gives(told('aaaaaaaa', 2, 3, 1, 98), ('aaa', 'aaa', 'aa'))
        self.gives(told('aaaaaaaab', 2, 3, 1, 98), ('aaa', 'aaa', 'aab'))
        self.gives(told('aabaaaaaa', 2, 4, 1, 98), ('aab', 'aaaa', 'aa'))
        self.gives(told('aaaaaa', 3, 3, 3, 98), ('aaa', 'aaa'))

    def test_one_goes_into_every_sum(self):
        self.gives(told('abcdefg', 3, 9, 2, 1), ('abc', 'def', 'g'))

    def test_short_texts(self):
        self.gives(told('', 4, 12, 3, 5), ())
        self.gives(told('', 1, 1, 1, 1), ())
        self.gives(told('b', 4, 12, 3, 1), ('b',))
        self.gives(told('bb', 4, 12, 3, 1), ('bb',))
        self.gives(told('bbb', 4, 12, 3, 1), ('bbb',))
        self.gives(told('bbbb', 4, 12, 3, 1), ('bbbb',))
        self.gives(told('bbbbb', 4, 12, 3, 1), ('bbbb', 'b'))

    def test_texts_as_long_as_the_most(self):
        self.gives(told('aaaa', 2, 4, 1, 98), ('aaaa',))
        self.gives(told('aaab', 2, 4, 1, 98), ('aaab',))
        self.gives(told('aaaaa', 2, 4, 1, 98), ('aaaa', 'a'))
        self.gives(told('aaaaaaaa', 2, 4, 1, 98), ('aaaa', 'aaaa'))

    def test_a_written_out_text(self):
        self.gives(told('the quick brown fox jumps over the lazy dog', 4, 12, 3, 5),
                   ('the qui', 'ck brown', ' fox ju', 'mps ove', 'r the lazy', ' dog'))

    def test_as_worded_for_many_texts_and_bounds(self):
        texts = [''.join(signs) for count in range(7) for signs in product('ab', repeat=count)] + [TEXT, TEXT * 3]
        for least, most, window in ((1, 1, 1), (1, 3, 1), (2, 3, 2), (2, 4, 1), (3, 3, 2), (4, 12, 3), (5, 30, 5)):
            for by in (1, 2, 3, 5, 97, 195, 1000):
                for text in texts:
                    pieces = told(text, least, most, window, by)
                    self.gives(pieces, told_by_trying(text, least, most, window, by))
                    self.assertEqual(check_pieces(text, pieces, least, most), len(pieces))

    def test_a_change_moves_few_cuts(self):
        one = told(TEXT, 4, 12, 3, 5)
        other = told('A' + TEXT[1:], 4, 12, 3, 5)
        self.assertGreater(settled(one, other), 0)

    def test_bad_bounds(self):
        for text in ('', 'abcdefg'):
            for bounds in BAD_BOUNDS:
                with self.subTest(text=text, bounds=bounds), self.assertRaises(BadSize):
                    told(text, *bounds, 5)

    def test_bad_numbers(self):
        for text in ('', 'ab', 'abcdefg'):
            for by in (0, -1, -5):
                with self.subTest(text=text, by=by), self.assertRaises(BadSize):
                    told(text, 4, 12, 3, by)


class TestRowsOfPieces(CutTest):
    def test_places_of(self):
        self.gives(places_of(('abc', 'd', 'ef')), (3, 4, 6))
        self.gives(places_of(['abc']), (3,))
        self.gives(places_of(()), ())
        self.gives(places_of([]), ())
        self.gives(places_of(even('abcdefg', 3)), (3, 6, 7))

    def test_shared_pieces(self):
        self.assertEqual(shared_pieces(('ab', 'c'), ('c', 'x', 'ab')), 2)
        self.assertEqual(shared_pieces(('ab', 'c'), ('a', 'b', 'abc')), 0)
        self.assertEqual(shared_pieces(('ab', 'c'), ()), 0)
        self.assertEqual(shared_pieces((), ('ab', 'c')), 0)
        self.assertEqual(shared_pieces((), ()), 0)

    def test_shared_pieces_that_stand_more_than_once(self):
        self.assertEqual(shared_pieces(['a'], ['a', 'b', 'a', 'a']), 3)
        self.assertEqual(shared_pieces(['a', 'a', 'a'], ['a', 'b']), 1)
        self.assertEqual(shared_pieces(['a', 'a', 'b'], ['a', 'b', 'b', 'c', 'c']), 3)

    def test_fresh_signs(self):
        self.assertEqual(fresh_signs(('ab', 'c'), ('c', 'xyz', 'ab', 'v')), 4)
        self.assertEqual(fresh_signs(('ab', 'c'), ('c', 'ab', 'ab')), 0)
        self.assertEqual(fresh_signs((), ('ab', 'c')), 3)
        self.assertEqual(fresh_signs(('ab', 'c'), ()), 0)
        self.assertEqual(fresh_signs((), ()), 0)

    def test_fresh_signs_of_pieces_that_stand_more_than_once(self):
        self.assertEqual(fresh_signs(['a'], ['xy', 'a', 'xy', 'xy']), 2)
        self.assertEqual(fresh_signs(['a', 'a'], ['xy', 'zw', 'a', 'zw', 'xy', 'a']), 4)

    def test_settled(self):
        self.assertEqual(settled(('a', 'b', 'c'), ('x', 'b', 'c')), 2)
        self.assertEqual(settled(('a', 'b', 'c'), ('b', 'c')), 2)
        self.assertEqual(settled(('b', 'c'), ('a', 'b', 'c')), 2)
        self.assertEqual(settled(('a', 'b'), ['a', 'b']), 2)
        self.assertEqual(settled(['a', 'a', 'a'], ('a', 'a')), 2)

    def test_settled_counts_up_to_the_first_unlike_pieces(self):
        self.assertEqual(settled(('a', 'b', 'c'), ('a', 'b', 'x')), 0)
        self.assertEqual(settled(('a', 'b', 'c'), ('a', 'x', 'c')), 1)
        self.assertEqual(settled(('a', 'bc'), ('ab', 'c')), 0)

    def test_settled_bare_rows(self):
        self.assertEqual(settled((), ()), 0)
        self.assertEqual(settled((), ('a',)), 0)
        self.assertEqual(settled(['a'], []), 0)

    def test_nothing_handed_in_changes(self):
        one, other = ['a', 'b', 'a'], ['c', 'a', 'c']
        for ask in (shared_pieces, fresh_signs, settled):
            ask(one, other)
        places_of(one)
        check_pieces('aba', one, 1, 1)
        self.assertEqual((one, other), (['a', 'b', 'a'], ['c', 'a', 'c']))


class TestCheckPieces(CutTest):
    def refuses(self, text, pieces, least, most):
        for row in (tuple(pieces), list(pieces)):
            with self.subTest(text=text, pieces=row, least=least, most=most):
                with self.assertRaises(BadSize):
                    check_pieces(text, row, least, most)
                self.assertEqual(list(row), list(pieces))

    def test_how_many_there_are(self):
        self.assertEqual(check_pieces('abcdefg', ('abc', 'defg'), 3, 4), 2)
        self.assertEqual(check_pieces('abcdefg', ['abcd', 'efg'], 4, 4), 2)
        self.assertEqual(check_pieces('abcdefg', ('abc', 'def', 'g'), 3, 3), 3)
        self.assertEqual(check_pieces('a', ('a',), 4, 12), 1)
        self.assertEqual(check_pieces('', (), 4, 12), 0)
        self.assertEqual(check_pieces('', [], 4, 12), 0)

    def test_pieces_that_are_not_the_text(self):
        self.refuses('abcdef', ('abc',), 3, 3)
        self.refuses('abcdef', (), 3, 3)
        self.refuses('abcdef', ('abc', 'deg'), 3, 3)
        self.refuses('abcdef', ('def', 'abc'), 3, 3)
        self.refuses('abc', ('abc', 'def'), 3, 3)
        self.refuses('', ('abc',), 3, 3)

    def test_bare_pieces(self):
        self.refuses('', ('',), 3, 3)
        self.refuses('abc', ('abc', ''), 3, 3)
        self.refuses('abc', ('', 'abc'), 0, 3)
        self.refuses('abcdef', ('abc', '', 'def'), 0, 3)

    def test_pieces_out_of_bounds(self):
        self.refuses('abcde', ('ab', 'cde'), 3, 4)
        self.refuses('abcde', ('abc', 'd', 'e'), 3, 4)
        self.refuses('abcdefgh', ('abcde', 'fgh'), 3, 4)
        self.refuses('abcdefgh', ('abc', 'defgh'), 3, 4)
        self.refuses('abcde', ('abcde',), 3, 4)

    def test_bounds_of_nought_and_below(self):
        self.refuses('a', ('a',), 0, 0)
        self.refuses('a', ('a',), -2, -1)
        self.refuses('ab', ('a', 'b'), 2, 1)
        self.assertEqual(check_pieces('', (), 0, 0), 0)
        self.assertEqual(check_pieces('ab', ('a', 'b'), -1, 1), 2)


if __name__ == '__main__':
    unittest.main()
