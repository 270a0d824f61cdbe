"""Point 7, deltas, and point 1 as far as it speaks of keepwright.deltas."""

import unittest
from itertools import product

from checks import Checks, state
from keepwright.deltas import (behind_each_other, best_delta, check_best, cost, delta, heights_for, made, marks,
                               together)
from keepwright.errors import BadPaper, BadSize
from keepwright.stores import figure

OLD = 'the quick brown fox jumps over the lazy dog'
NEW = 'a quick brown dog jumps over the lazy fox, the quick brown fox'
SHORT = [''.join(signs) for count in range(4) for signs in product('ab', repeat=count)]
# What isn't a copy of "abc", whatever stands beside it.
BAD_ROWS = (('copy', 2, 2), ('copy', 4, 0), ('copy', 0, 4), ('copy', -1, 2), ('copy', -1, 1), ('copy', -1, 0),
            ('copy', 1, -1), ('copy', 3, -3), ('copy', 9, 1), ('skip', 0, 1), ('', 0, 1), ('Copy', 0, 1))


def all_ways(old, new):
    """Return all rows, none bare, that make a text of another, as point 7 puts them in order."""
    if new == '':
        return [()]
    ways = []
    for count in range(len(new), 0, -1):
        if new[:count] in old:
            first = ('copy', old.index(new[:count]), count)
            ways.extend((first,) + rest for rest in all_ways(old, new[count:]))
    for count in range(1, len(new) + 1):
        ways.extend((('put', new[:count]),) + rest for rest in all_ways(old, new[count:]))
    return ways


def best_by_trying(old, new):
    """Return the first of the ways of least cost, and the cost."""
    costs = [(sum(2 if row[0] == 'copy' else 1 + len(row[1]) for row in way), place, way)
             for place, way in enumerate(all_ways(old, new))]
    least, _, way = min(costs)
    return way, least


class TestMarks(Checks):
    def test_marks(self):
        self.gives(marks('abcabdx', 3), ((figure('abc'), 0), (figure('abd'), 3)))
        self.gives(marks('ba', 1), ((figure('b'), 0), (figure('a'), 1)))
        self.gives(marks('abab', 4), ((figure('abab'), 0),))

    def test_what_is_left_is_no_whole_piece(self):
        self.gives(marks('abcd', 3), ((figure('abc'), 0),))
        self.gives(marks('ab', 3), ())
        self.gives(marks('', 1), ())

    def test_the_first_of_each_figure_alone(self):
        self.gives(marks('PeQAAA', 3), ((131737, 0),))
        self.gives(marks('AAAPeQAAA', 3), ((131737, 0),))
        self.gives(marks('xyzAAAPeQ', 3), ((figure('xyz'), 0), (131737, 3)))
        self.gives(marks('ababab', 2), ((figure('ab'), 0),))

    def test_bad_sizes(self):
        for text in ('', 'abc'):
            for size in (0, -1):
                self.refuses(BadSize, lambda: marks(text, size))


class TestDelta(Checks):
    def test_alike_texts(self):
        self.gives(delta('abcdef', 'abcdef', 3), (('copy', 0, 6),))
        self.gives(delta('abcdef', 'abcdef', 6), (('copy', 0, 6),))
        self.gives(delta('abcdefg', 'abcdefg', 3), (('copy', 0, 6), ('put', 'g')))
        self.gives(delta('ab', 'ab', 3), (('put', 'ab'),))
        self.gives(delta('', '', 1), ())

    def test_texts_with_nothing_alike(self):
        self.gives(delta('abcdef', 'uvwxyz', 2), (('put', 'uvwxyz'),))
        self.gives(delta('', 'abc', 1), (('put', 'abc'),))
        self.gives(delta('abc', '', 1), ())
        # "bc" stands in the old text, but not as one of its pieces.
        self.gives(delta('abcd', 'bc', 2), (('put', 'bc'),))

    def test_pieces_found_at_any_place(self):
        self.gives(delta('abcdef', 'xabcyzdef', 3), (('put', 'x'), ('copy', 0, 3), ('put', 'yz'), ('copy', 3, 3)))
        self.gives(delta('abcdef', 'defabc', 3), (('copy', 3, 3), ('copy', 0, 3)))
        self.gives(delta('abcdef', 'abdef', 3), (('put', 'ab'), ('copy', 3, 3)))

    def test_copies_that_go_on_from_each_other(self):
        self.gives(delta('abcdefghi', 'xabcdefghiy', 3), (('put', 'x'), ('copy', 0, 9), ('put', 'y')))
        self.gives(delta('abcdefghi', 'defghiabc', 3), (('copy', 3, 6), ('copy', 0, 3)))
        self.gives(delta('abcdef', 'abcabc', 3), (('copy', 0, 3), ('copy', 0, 3)))
        # The first of its figure is taken, also where a later one would go on.
        self.gives(delta('xxabxx', 'abxx', 2), (('copy', 2, 2), ('copy', 0, 2)))

    def test_a_piece_of_the_figure_of_another(self):
        self.gives(delta('PeQxyz', 'AAAxyz', 3), (('put', 'AAA'), ('copy', 3, 3)))
        self.gives(delta('PeQAAA', 'AAA', 3), (('put', 'AAA'),))
        self.gives(delta('PeQAAA', 'AAAPeQ', 3), (('put', 'AAA'), ('copy', 0, 3)))
        self.gives(delta('PeQAAA', 'PeQAAA', 3), (('copy', 0, 3), ('put', 'AAA')))

    def test_bad_sizes(self):
        for old, new in (('', ''), ('abc', 'abc'), ('', 'a')):
            for size in (0, -1):
                self.refuses(BadSize, lambda: delta(old, new, size))

    def test_deltas_make_the_text(self):
        for old, new in list(product(SHORT, SHORT)) + [(OLD, NEW), (NEW, OLD), (OLD * 3, NEW * 2)]:
            for size in (1, 2, 3, 4, 7):
                rows = delta(old, new, size)
                self.assertEqual(made(old, rows), new)
                self.assertEqual(rows, together(rows))


class TestMade(Checks):
    def test_made(self):
        self.gives(made('abcdef', (('copy', 1, 3), ('put', 'xy'), ('copy', 0, 6), ('copy', 5, 1))), 'bcdxyabcdeff')
        self.gives(made('abc', [['copy', 0, 3], ['put', 'x']]), 'abcx')
        self.gives(made('abc', ()), '')
        self.gives(made('', [('put', 'x'), ('put', ''), ('put', 'y')]), 'xy')

    def test_copies_of_none(self):
        for place in range(4):
            self.gives(made('abc', (('copy', place, 0),)), '')
        self.gives(made('', (('copy', 0, 0),)), '')

    def test_rows_that_can_not_be(self):
        for row in BAD_ROWS:
            for rows in ((row,), (('put', 'x'), row), [row, ('copy', 0, 1)]):
                self.refuses(BadPaper, lambda: made('abc', rows), rows)
        self.refuses(BadPaper, lambda: made('', (('copy', 0, 1),)))

    def test_cost(self):
        self.gives(cost(()), 0)
        self.gives(cost((('copy', 0, 9), ('put', 'abc'), ['put', ''], ['copy', 3, 0])), 2 + 4 + 1 + 2)


class TestBest(Checks):
    def test_best_of_little_texts(self):
        self.gives(best_delta('', ''), ())
        self.gives(best_delta('abc', ''), ())
        self.gives(best_delta('', 'abc'), (('put', 'abc'),))
        self.gives(best_delta('abc', 'abc'), (('copy', 0, 3),))
        self.gives(best_delta('xabcy', 'abc'), (('copy', 1, 3),))

    def test_of_like_costs_copies_stand_ahead(self):
        # A copy of one sign costs as much as a put of one.
        self.gives(best_delta('a', 'a'), (('copy', 0, 1),))
        # A put of two costs less than a copy and a put.
        self.gives(best_delta('a', 'ab'), (('put', 'ab'),))
        self.gives(best_delta('a', 'xax'), (('put', 'xax'),))

    def test_longer_copies_first(self):
        self.gives(best_delta('abcbcd', 'abcd'), (('copy', 0, 3), ('copy', 5, 1)))
        self.gives(best_delta('bcdab', 'abcd'), (('copy', 3, 2), ('copy', 1, 2)))

    def test_at_the_first_place(self):
        self.gives(best_delta('xabyab', 'ab'), (('copy', 1, 2),))
        self.gives(best_delta('aaaa', 'aa'), (('copy', 0, 2),))

    def test_held_against_all_ways(self):
        texts = SHORT + ['aab', 'abc', 'bca', 'abab', 'abcab']
        news = texts + ['aabb', 'abba', 'abcc', 'cabab', 'xaxb', 'abxab', 'bbabca']
        for old, new in product(texts + ['abxba', 'abcxbcd'], news):
            with self.subTest(old=old, new=new):
                way, least = best_by_trying(old, new)
                self.gives(best_delta(old, new), way)
                heights = heights_for(old, new)
                self.gives(heights[0], least)
                self.gives(check_best(old, new, heights, way), least)
                for place in range(len(new) + 1):
                    self.gives(heights[place], heights_for(old, new[place:])[0])

    def test_of_like_costs_shorter_puts(self):
        for old, new in product(('abc', 'bcab', 'abba'), [''.join(signs) for signs in product('abx', repeat=5)]):
            self.gives(best_delta(old, new), best_by_trying(old, new)[0])

    def test_heights(self):
        self.gives(heights_for('', ''), (0,))
        self.gives(heights_for('', 'abc'), (4, 3, 2, 0))
        self.gives(heights_for('ab', 'abc'), (4, 3, 2, 0))
        self.gives(heights_for('abc', 'abcabc'), (4, 4, 4, 2, 2, 2, 0))

    def test_long_texts(self):
        for old, new in ((OLD, NEW), (NEW, OLD), (OLD * 3, NEW * 2)):
            rows = best_delta(old, new)
            self.assertEqual(made(old, rows), new)
            self.gives(check_best(old, new, heights_for(old, new), rows), cost(rows))
            for size in (1, 2, 3, 5):
                self.assertLessEqual(cost(rows), cost(delta(old, new, size)))


class TestCheckBest(Checks):
    OLD = 'abcdefgh'
    NEW = 'xxabcxfgh'

    def setUp(self):
        self.heights = heights_for(self.OLD, self.NEW)
        self.rows = best_delta(self.OLD, self.NEW)

    def test_right_ones(self):
        self.gives(self.heights, (9, 8, 6, 6, 5, 4, 2, 2, 2, 0))
        self.gives(self.rows, (('put', 'xx'), ('copy', 0, 3), ('put', 'x'), ('copy', 5, 3)))
        self.gives(check_best(self.OLD, self.NEW, self.heights, self.rows), 9)
        self.gives(check_best(self.OLD, self.NEW, list(self.heights), [list(row) for row in self.rows]), 9)
        self.gives(check_best('', '', (0,), ()), 0)
        self.gives(check_best('', 'a', (2, 0), (('put', 'a'),)), 2)

    def test_other_rows_of_least_cost(self):
        for old in ('abab', 'xabyab'):
            place = old.rindex('ab')
            self.gives(check_best(old, 'ab', (2, 2, 0), (('copy', place, 2),)), 2)
        self.gives(check_best('a', 'a', (2, 0), (('put', 'a'),)), 2)

    def test_heights_that_are_less_where_no_best_rows_begin(self):
        heights = list(self.heights)
        heights[3] -= 1
        self.gives(check_best(self.OLD, self.NEW, heights, self.rows), 9)
        self.gives(check_best('', 'ab', (3, 1, 0), (('put', 'ab'),)), 3)

    def refuses_best(self, old, new, heights, rows):
        self.refuses(BadPaper, lambda: check_best(old, new, heights, rows), heights, rows)

    def test_one_too_great(self):
        for place in range(len(self.heights)):
            heights = list(self.heights)
            heights[place] += 1
            self.refuses_best(self.OLD, self.NEW, heights, self.rows)

    def test_one_too_small(self):
        # A lesser height makes those ahead of it too steep, and the first one other than the cost.
        for place in (0, 2, 5, 6, 9):
            heights = list(self.heights)
            heights[place] -= 1
            self.refuses_best(self.OLD, self.NEW, heights, self.rows)

    def test_too_few_too_many_or_none(self):
        self.refuses_best(self.OLD, self.NEW, self.heights[1:], self.rows)
        self.refuses_best(self.OLD, self.NEW, self.heights[:-1], self.rows)
        self.refuses_best(self.OLD, self.NEW, (0,) * 9, self.rows)
        self.refuses_best(self.OLD, self.NEW, self.heights + (0,), self.rows)
        self.refuses_best(self.OLD, self.NEW, (9,) + self.heights, self.rows)
        self.refuses_best(self.OLD, self.NEW, (), self.rows)
        self.refuses_best('', '', (), ())

    def test_the_last_not_nought(self):
        for last in (1, -1):
            self.refuses_best(self.OLD, self.NEW, self.heights[:-1] + (last,), self.rows)
            self.refuses_best(self.OLD, self.NEW, tuple(height + last for height in self.heights), self.rows)
            self.refuses_best('', '', (last,), ())

    def test_rows_that_do_not_make_the_text(self):
        for rows in ((), self.rows[1:], self.rows + (('put', 'x'),), (('put', 'xxabcxfgg'),), self.rows[::-1]):
            self.refuses_best(self.OLD, self.NEW, self.heights, rows)
        for row in (('copy', 0, 9), ('copy', -1, 1), ('skip', 0, 1)):
            self.refuses_best(self.OLD, self.NEW, self.heights, self.rows + (row,))

    def test_rows_that_cost_more(self):
        for rows in ((('put', self.NEW),), self.rows + (('put', ''),), self.rows + (('copy', 0, 0),)):
            self.assertEqual(made(self.OLD, rows), self.NEW)
            self.refuses_best(self.OLD, self.NEW, self.heights, rows)
        # Heights that tell the cost of other rows are too steep somewhere.
        self.refuses_best('', 'ab', (4, 2, 0), (('put', 'a'), ('put', 'b')))
        self.refuses_best('ab', 'ab', (3, 2, 0), (('put', 'ab'),))


class TestBehindEachOther(Checks):
    OLDEST = 'abcdefgh'
    FIRST = (('copy', 4, 3), ('put', 'xyz'), ('copy', 0, 2))

    def test_copies_over_several_rows(self):
        self.assertEqual(made(self.OLDEST, self.FIRST), 'efgxyzab')
        self.gives(behind_each_other(self.FIRST, (('copy', 2, 5),)), (('copy', 6, 1), ('put', 'xyz'), ('copy', 0, 1)))
        self.gives(behind_each_other(self.FIRST, (('copy', 0, 8),)), self.FIRST)
        self.gives(behind_each_other(self.FIRST, (('copy', 1, 2),)), (('copy', 5, 2),))
        self.gives(behind_each_other(self.FIRST, (('copy', 4, 1), ('put', 'q'))), (('put', 'yq'),))
        self.gives(behind_each_other(self.FIRST, [['copy', 0, 1], ['copy', 1, 1], ['put', 'q']]),
                   (('copy', 4, 2), ('put', 'q')))
        self.gives(behind_each_other(self.FIRST, ()), ())
        self.gives(behind_each_other((), (('put', 'a'),)), (('put', 'a'),))
        self.gives(behind_each_other([['copy', 0, 4]], (('copy', 0, 2), ('copy', 2, 2))), (('copy', 0, 4),))

    def test_copies_of_none(self):
        for place in range(9):
            self.gives(behind_each_other(self.FIRST, (('copy', place, 0),)), ())

    def test_copies_past_the_end(self):
        for row in (('copy', 0, 9), ('copy', 8, 1), ('copy', 9, 0), ('copy', -1, 1), ('copy', 3, -1), ('copy', -2, 2)):
            for second in ((row,), (('put', 'x'), row), [list(row), ('copy', 0, 1)]):
                self.refuses(BadPaper, lambda: behind_each_other(self.FIRST, second), self.FIRST, second)
        self.refuses(BadPaper, lambda: behind_each_other((), (('copy', 0, 1),)))

    def test_any_two_lots_make_the_last_text(self):
        texts = ('', 'abab', 'abcabc', 'bcaxb', OLD, NEW)
        for oldest, between, new in product(texts, repeat=3):
            for first, second in ((delta(oldest, between, 2), delta(between, new, 2)),
                                  (best_delta(oldest, between), best_delta(between, new))):
                rows = behind_each_other(first, second)
                self.assertEqual(made(oldest, rows), new)
                self.assertEqual(rows, together(rows))


class TestTogether(Checks):
    def test_copies_and_puts_that_meet(self):
        self.gives(together((('copy', 0, 2), ('copy', 2, 3), ('put', 'a'), ('put', 'b'), ('put', 'c'))),
                   (('copy', 0, 5), ('put', 'abc')))
        self.gives(together([['copy', 1, 1], ['copy', 2, 1], ['copy', 3, 2], ['put', 'x']]),
                   (('copy', 1, 4), ('put', 'x')))

    def test_copies_that_do_not_meet(self):
        for rows in ((('copy', 0, 2), ('copy', 3, 1)), (('copy', 0, 2), ('copy', 0, 2)),
                     (('copy', 2, 2), ('copy', 0, 2)),
                     (('copy', 0, 2), ('put', 'x'), ('copy', 2, 2)), (('put', 'x'), ('copy', 0, 1), ('put', 'x')),
                     (('put', 'x'), ('copy', 0, 1)), (('put', 'x'), ('copy', 1, 1))):
            self.gives(together(rows), rows)

    def test_bare_rows(self):
        self.gives(together(()), ())
        self.gives(together([('put', ''), ('copy', 5, 0)]), ())
        self.gives(together([('put', 'a'), ('copy', 5, 0), ('put', ''), ('put', 'b')]), (('put', 'ab'),))
        self.gives(together([('copy', 0, 1), ('put', ''), ('copy', 0, 0), ('copy', 1, 1), ('copy', 2, 0)]),
                   (('copy', 0, 2),))

    def test_nothing_handed_in_changes(self):
        rows = [['copy', 0, 1], ['copy', 1, 1], ['put', 'a'], ['put', 'b']]
        was = state(rows)
        together(rows)
        made('ab', rows)
        behind_each_other(rows, rows)
        self.assertEqual(state(rows), was)


if __name__ == '__main__':
    unittest.main()
