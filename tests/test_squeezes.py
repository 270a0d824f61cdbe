"""Point 13, squeezes, and points 1 and 18 as far as they speak of keepwright.squeezes."""

import unittest
from itertools import product

from checks import Checks
from keepwright.errors import BadPaper, BadSize, BadText
from keepwright.squeezes import (check_window, copies_at, greedy, in_words, length_by, out_of_words, runs_of, squeezed,
                                 text_of_runs, told_again, weights_of, words_for)

WINDOWS = ((1, 1), (1, 4), (2, 2), (3, 9), (9, 3), (20, 20))
LONG = 'the quick brown fox, the quick brown dog, the the the quick\n\nbrown aaaaaaaaaaaaa fox'


def short_texts(signs, most):
    """Return all texts of some signs, up to so many."""
    return [''.join(row) for count in range(most + 1) for row in product(signs, repeat=count)]


def copies_by_trying(text, place, window, most):
    """Return a table of counts to the nearest copies, sign by sign as they are told again."""
    found = {}
    for count in range(1, min(most, len(text) - place) + 1):
        for back in range(1, min(window, place) + 1):
            told = list(text[:place])
            for _ in range(count):
                told.append(told[-back])
            if ''.join(told) == text[:place + count]:
                found.setdefault(count, back)
    return found


def ways_by_trying(text, place, window, most, known):
    """Return all ways to tell a text from a place on, in the order in which they are to be taken."""
    if place not in known:
        copies = copies_by_trying(text, place, window, most)
        heads = [((copies[count], count), count) for count in sorted(copies, reverse=True)] + [(text[place:][:1], 1)]
        known[place] = [()] if place == len(text) else [
            (head,) + rest for head, count in heads
            for rest in ways_by_trying(text, place + count, window, most, known)]
    return known[place]


def codes_of(count, longest):
    """Return all choices of lengths of words, up to the longest, that can begin no other."""
    return [lengths for lengths in product(range(1, longest + 1), repeat=count)
            if sum(2 ** (longest - length) for length in lengths) <= 2 ** longest]


class TestWindow(Checks):
    def test_bounds(self):
        for window, most in ((1, 1), (1, 99), (99, 1), (4, 4)):
            self.gives(check_window(window, most), (window, most))
        for window, most in ((0, 1), (1, 0), (-1, 1), (1, -1), (0, 0)):
            for ask in (lambda: check_window(window, most), lambda: squeezed('ab', window, most),
                        lambda: greedy('ab', window, most), lambda: squeezed('', window, most),
                        lambda: greedy('', window, most)):
                self.refuses(BadSize, ask)


class TestCopies(Checks):
    def test_at_the_first_place(self):
        self.gives(copies_at('aaa', 0, 5, 5), {})
        self.gives(copies_at('', 0, 5, 5), {})

    def test_where_several_begin(self):
        self.gives(copies_at('abxabyabx', 6, 9, 9), {1: 3, 2: 3, 3: 6})
        self.gives(copies_at('abxabyabx', 6, 5, 9), {1: 3, 2: 3})
        self.gives(copies_at('abxabyabx', 6, 9, 1), {1: 3})
        self.gives(copies_at('abxabyabx', 6, 2, 9), {})
        self.gives(copies_at('abxabyabx', 8, 9, 9), {1: 6})

    def test_where_a_copy_takes_signs_of_its_own(self):
        self.gives(copies_at('aaaaa', 1, 9, 9), {1: 1, 2: 1, 3: 1, 4: 1})
        self.gives(copies_at('aaaaa', 2, 9, 2), {1: 1, 2: 1})
        self.gives(copies_at('abababa', 2, 9, 9), {1: 2, 2: 2, 3: 2, 4: 2, 5: 2})

    def test_at_the_end(self):
        self.gives(copies_at('aa', 2, 9, 9), {})

    def test_by_trying(self):
        for text in short_texts('ab', 6) + ['abcabcabxabc', LONG[:40]]:
            for place in range(len(text) + 1):
                for window, most in WINDOWS:
                    self.gives(copies_at(text, place, window, most), copies_by_trying(text, place, window, most))


class TestSqueezed(Checks):
    def test_told(self):
        self.gives(squeezed('', 3, 3), ())
        self.gives(squeezed('abc', 3, 3), ('a', 'b', 'c'))
        self.gives(squeezed('aaaa', 3, 9), ('a', (1, 3)))
        self.gives(squeezed('aaaa', 3, 2), ('a', (1, 2), (1, 1)))
        self.gives(squeezed('abab', 9, 9), ('a', 'b', (2, 2)))
        # A copy of one sign is ahead of the sign.
        self.gives(squeezed('aba', 9, 9), ('a', 'b', (2, 1)))
        self.gives(squeezed('aba', 1, 9), ('a', 'b', 'a'))

    def test_the_fewest_rows_by_trying_all_ways(self):
        texts = short_texts('ab', 7) + short_texts('abc', 5) + ['abcabcab', 'aabaabab', 'abbabbba']
        for text in texts:
            for window, most in ((1, 4), (2, 2), (3, 9), (9, 3), (9, 9)):
                ways = ways_by_trying(text, 0, window, most, {})
                least = min(len(way) for way in ways)
                # The first of the fewest has the longer copies ahead, the sign behind them.
                wanted = [way for way in ways if len(way) == least][0]
                self.gives(squeezed(text, window, most), wanted)

    def test_told_again_it_is_the_text(self):
        for text in short_texts('ab', 8) + short_texts('abc', 5) + [LONG, LONG * 3, 'x' * 200, '\n\n', '\u00e4 \u00e4']:
            for window, most in WINDOWS:
                self.gives(told_again(squeezed(text, window, most)), text)
                self.gives(told_again(greedy(text, window, most)), text)

    def test_greedy(self):
        self.gives(greedy('', 3, 3), ())
        self.gives(greedy('abc', 3, 3), ('a', 'b', 'c'))
        # The longest, though it begins further back; of alike ones the nearest.
        self.gives(greedy('abxabyabx', 9, 9), ('a', 'b', 'x', (3, 2), 'y', (6, 3)))
        self.gives(greedy('abxabyabz', 9, 9), ('a', 'b', 'x', (3, 2), 'y', (3, 2), 'z'))
        self.gives(greedy('aaaa', 3, 2), ('a', (1, 2), (1, 1)))
        self.gives(greedy('aba', 1, 9), ('a', 'b', 'a'))

    def test_greedy_by_trying(self):
        for text in short_texts('ab', 7) + [LONG]:
            for window, most in WINDOWS:
                wanted = []
                place = 0
                while place < len(text):
                    copies = copies_by_trying(text, place, window, most)
                    wanted.append((copies[max(copies)], max(copies)) if copies else text[place])
                    place += max(copies) if copies else 1
                self.gives(greedy(text, window, most), tuple(wanted))


class TestToldAgain(Checks):
    def test_copies_and_signs(self):
        self.gives(told_again(()), '')
        self.gives(told_again(['a', 'b', [2, 2]]), 'abab')
        self.gives(told_again(('a', 'b', 'c', (3, 1), (1, 2))), 'abcaaa')

    def test_a_copy_that_takes_its_own_signs(self):
        self.gives(told_again(('a', (1, 5))), 'aaaaaa')
        self.gives(told_again(('a', 'b', (2, 5))), 'abababa')

    def test_copies_that_cannot_be(self):
        for rows in (((1, 1),), ('a', (2, 1)), ('a', (0, 1)), ('a', (-1, 1)), ('a', (1, 0)), ('a', (1, -1)),
                     ('a', 'b', (2, 2), (5, 1)), ('a', (1, 1), (3, 0))):
            self.refuses(BadPaper, lambda: told_again(rows), rows)


class TestRuns(Checks):
    def test_runs_of(self):
        self.gives(runs_of(''), ())
        self.gives(runs_of('a'), (('a', 1),))
        self.gives(runs_of('abc'), (('a', 1), ('b', 1), ('c', 1)))
        self.gives(runs_of('aaabb\n\na'), (('a', 3), ('b', 2), ('\n', 2), ('a', 1)))

    def test_text_of_runs(self):
        self.gives(text_of_runs(()), '')
        self.gives(text_of_runs([['a', 3], ('b', 1), ('b', 2)]), 'aaabbb')
        for text in short_texts('ab', 6) + [LONG]:
            self.gives(text_of_runs(runs_of(text)), text)

    def test_counts_below_one(self):
        for rows in ((('a', 0),), (('a', 2), ('b', -1)), [['a', 0], ['b', 1]]):
            self.refuses(BadText, lambda: text_of_runs(rows), rows)


class TestWords(Checks):
    def test_weights_in_order(self):
        self.gives(weights_of(''), {})
        self.gives(weights_of('banana'), {'a': 3, 'b': 1, 'n': 2})
        self.gives(weights_of('zz-\n'), {'\n': 1, '-': 1, 'z': 2})

    def test_no_sign_and_one(self):
        self.gives(words_for({}), {})
        self.gives(words_for({'x': 9}), {'x': '0'})

    def test_the_lighter_lot_first(self):
        self.gives(words_for({'a': 5, 'b': 2}), {'a': '1', 'b': '0'})
        self.gives(words_for({'b': 2, 'a': 5}), {'a': '1', 'b': '0'})
        self.gives(words_for({'a': 4, 'b': 1, 'c': 2}), {'a': '1', 'b': '00', 'c': '01'})

    def test_alike_weights_by_earlier_signs(self):
        self.gives(words_for({'b': 1, 'a': 1}), {'a': '0', 'b': '1'})
        self.gives(words_for({'a': 1, 'b': 1, 'c': 1}), {'a': '10', 'b': '11', 'c': '0'})
        self.gives(words_for({'a': 1, 'b': 1, 'c': 1, 'd': 1}), {'a': '00', 'b': '01', 'c': '10', 'd': '11'})
        # A joined lot has its signs in order, whichever of the two was the first: "ac" is ahead of "b".
        self.gives(words_for({'c': 1, 'a': 2, 'b': 3}), {'a': '01', 'b': '1', 'c': '00'})
        self.gives(words_for({'c': 1, 'a': 2, 'b': 3, 'd': 3}), {'a': '101', 'b': '11', 'c': '100', 'd': '0'})

    def test_weights_below_one(self):
        for weights in ({'a': 0}, {'a': 3, 'b': -1}, {'a': 1, 'b': 0, 'c': 2}):
            self.refuses(BadSize, lambda: words_for(weights), weights)

    def test_least_in_all_by_trying(self):
        for count in range(2, 5):
            for row in product((1, 2, 3, 7), repeat=count):
                weights = dict(zip('abcd', row))
                words = words_for(weights)
                least = min(sum(weight * length for weight, length in zip(row, lengths))
                            for lengths in codes_of(count, count))
                self.gives(length_by(weights, words), least)
                self.assertEqual(list(words), sorted(weights))
                for sign in words:
                    self.assertFalse(any(words[other].startswith(words[sign]) for other in words if other != sign))

    def test_in_words(self):
        words = {'a': '1', 'b': '00', 'c': '01'}
        self.gives(in_words('', words), '')
        self.gives(in_words('', {}), '')
        self.gives(in_words('abcca', words), '10001011')
        for text in ('d', 'abd', 'A'):
            self.refuses(BadText, lambda: in_words(text, words), words)

    def test_out_of_words(self):
        words = {'a': '1', 'b': '00', 'c': '01'}
        self.gives(out_of_words('', words), '')
        self.gives(out_of_words('', {}), '')
        self.gives(out_of_words('10001011', words), 'abcca')
        for bits in ('0', '10', '1000', '0110', 'x', '1 1'):
            self.refuses(BadText, lambda: out_of_words(bits, words), words)
        self.refuses(BadText, lambda: out_of_words('1', {'a': '0'}))
        self.refuses(BadText, lambda: out_of_words('01', {'a': '0'}))
        self.refuses(BadText, lambda: out_of_words('0', {}))

    def test_there_and_back(self):
        for text in short_texts('ab', 5) + short_texts('abc', 4) + [LONG, 'x' * 50]:
            words = words_for(weights_of(text))
            bits = in_words(text, words)
            self.assertLessEqual(set(bits), {'0', '1'})
            self.gives(out_of_words(bits, words), text)
            self.gives(length_by(weights_of(text), words), len(bits))

    def test_length_by(self):
        self.gives(length_by({}, {}), 0)
        self.gives(length_by({}, {'a': '0'}), 0)
        self.gives(length_by({'a': 3, 'b': 2}, {'a': '1', 'b': '00', 'c': '01'}), 7)


if __name__ == '__main__':
    unittest.main()
