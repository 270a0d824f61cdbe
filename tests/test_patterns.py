"""Point 14, patterns, and points 1 and 18 as far as they speak of keepwright.patterns."""

import re
import unittest
from itertools import product

from checks import Checks, small_folders
from keepwright.errors import BadPath, BadRule
from keepwright.patterns import (check_pattern, check_rules, fit_name, fit_names, fits, idle_rules, overs_and, picked,
                                 picked_folder, why)

BAD_PATTERNS = ('', '/', 'a/', '/a', 'a//b', 'a**', '**a', 'a/**b', '***', '**?', 'A', 'a b', 'a\n', '[a]', 'a/b/',
                '\u00e4', 'a+')
BAD_RULES = ([('', 'a')], [('*', 'a')], [('+-', 'a')], [('+', 'a'), ('-', '')], [('-', 'a'), ('x', 'b')],
             [('+', 'a**')], [['+', 'A']])
PATHS = ('a', 'a/b', 'a/b/c', 'ab', 'b', 'b/a', 'notes/may.txt', 'notes/old/may.txt')


def pairs(count):
    """Return all rows of so many rules of a few patterns."""
    rules = list(product('+-', ('a', 'a/*', '**/b', '?b', '**')))
    return list(product(rules, repeat=count))


def names_by_trying(pattern, names):
    """Tell whether names are those of a pattern's names, by all ways to part them."""
    if not pattern:
        return not names
    if pattern[0] == '**':
        return any(names_by_trying(pattern[1:], names[count:]) for count in range(len(names) + 1))
    return bool(names) and by_words(pattern[0], names[0]) and names_by_trying(pattern[1:], names[1:])


def by_words(pattern, name):
    """Tell whether a name is one of a pattern's name, by a way of another kind."""
    words = ''.join({'*': '.*', '?': '.'}.get(sign, re.escape(sign)) for sign in pattern)
    return re.fullmatch(words, name, re.DOTALL) is not None


class TestCheckPattern(Checks):
    def test_patterns(self):
        for pattern in ('a', 'a/b', '*', '?', '**', '**/**', 'a/**/b', '*.txt', 'a*b?c', '?*', '*?*', '.', '..', 'a/..',
                        '_-', 'a*b*c', '*/*'):
            self.gives(check_pattern(pattern), pattern)

    def test_no_patterns(self):
        for pattern in BAD_PATTERNS:
            self.refuses(BadRule, lambda: check_pattern(pattern))
            self.refuses(BadRule, lambda: fits(pattern, 'a'))

    def test_each_sign(self):
        for sign in map(chr, range(128)):
            if sign in 'abcdefghijklmnopqrstuvwxyz0123456789._-*?':
                self.gives(check_pattern('a' + sign), 'a' + sign)
            else:
                self.refuses(BadRule, lambda: check_pattern(sign + '/a'))
                self.refuses(BadRule, lambda: check_pattern('a/' + sign))


class TestFits(Checks):
    def test_any_signs_of_a_name(self):
        for name in ('may', 'may.txt', 'mtxt', 'm'):
            self.assertIs(fit_name('m*', name), True)
        for pattern in ('*', 'may*', '*may', 'm*y', '*a*', '*m*a*y*'):
            self.assertIs(fit_name(pattern, 'may'), True)
        for pattern in ('*x', 'm*x', 'may*y', 'y*m', 'may*may', ''):
            self.assertIs(fit_name(pattern, 'may'), False)
        self.assertIs(fit_name('*', ''), True)
        self.assertIs(fit_name('', ''), True)
        self.assertIs(fits('*', 'a/b'), False)
        self.assertIs(fits('a/*', 'a'), False)
        self.assertIs(fits('a*', 'a/b'), False)

    def test_one_sign_of_a_name(self):
        self.assertIs(fit_name('m?y', 'may'), True)
        self.assertIs(fit_name('???', 'may'), True)
        for pattern in ('?', '??', '????', 'may?', '?may'):
            self.assertIs(fit_name(pattern, 'may'), False)
        self.assertIs(fit_name('?', ''), False)
        self.assertIs(fit_name('?*', ''), False)
        self.assertIs(fit_name('?*', 'm'), True)
        self.assertIs(fits('a?b', 'a/b'), False)

    def test_a_dot_is_a_sign_like_others(self):
        self.assertIs(fit_name('a.b', 'axb'), False)
        self.assertIs(fit_name('*.txt', '.txt'), True)
        self.assertIs(fits('*', '.hidden'), True)

    def test_any_names(self):
        for pattern in ('**', '**/c', 'a/**', 'a/**/c', '**/b/**', '**/a/b/c/**', 'a/b/c/**', '**/a/b/c', 'a/**/b/c',
                        '**/**', 'a/**/**/c', '**/*/**', '*/**/?'):
            self.assertIs(fits(pattern, 'a/b/c'), True)
        for pattern in ('**/b', 'b/**', 'a/**/b', '**/c/a/**', '**/a/c/**', '*/**/*/**/*/*', 'a/b', 'a/b/c/d'):
            self.assertIs(fits(pattern, 'a/b/c'), False)
        for pattern in ('**', 'a/**', '**/a', '**/a/**', '**/**'):
            self.assertIs(fits(pattern, 'a'), True)
        self.assertIs(fits('**/a/**/a', 'a'), False)

    def test_no_name(self):
        self.assertIs(fit_names(['**'], []), True)
        self.assertIs(fit_names(('**', '**'), ()), True)
        self.assertIs(fit_names((), ()), True)
        self.assertIs(fit_names((), ('a',)), False)
        self.assertIs(fit_names(('*',), ()), False)
        self.assertIs(fit_names(('a',), ()), False)

    def test_names_by_trying(self):
        parts = ('**', '*', 'a', 'b?')
        names = ('a', 'ba', 'c')
        for pattern in [row for count in range(4) for row in product(parts, repeat=count)]:
            for row in [row for count in range(4) for row in product(names, repeat=count)]:
                self.assertIs(fit_names(pattern, row), names_by_trying(pattern, row))

    def test_signs_by_trying(self):
        for pattern in [''.join(row) for count in range(6) for row in product('*?a', repeat=count)]:
            for name in [''.join(row) for count in range(5) for row in product('ab', repeat=count)]:
                self.assertIs(fit_name(pattern, name), by_words(pattern, name))

    def test_long_names(self):
        self.assertIs(fit_name('*a' * 40 + '*', 'a' * 39), False)
        self.assertIs(fit_names(['**', 'a'] * 40, ['a'] * 39), False)


class TestPicked(Checks):
    def test_by_no_rule(self):
        self.assertIs(picked((), 'a'), True)
        self.assertIs(picked([('-', 'b')], 'a'), True)
        self.gives(why((), 'a'), None)
        self.gives(why([('-', 'b')], 'a'), None)

    def test_by_the_last_that_fits(self):
        rules = [('-', 'notes/*'), ('+', '**/may.txt'), ['-', '*/old/**']]
        self.assertIs(picked(rules, 'notes/june.txt'), False)
        self.assertIs(picked(rules, 'notes/may.txt'), True)
        self.assertIs(picked(rules, 'notes/old/may.txt'), False)
        self.gives(why(rules, 'notes/june.txt'), 0)
        self.gives(why(rules, 'notes/may.txt'), 1)
        self.gives(why(rules, 'notes/old/may.txt'), 2)
        self.gives(why(rules, 'plan.txt'), None)
        self.assertIs(picked(rules[::-1], 'notes/old/may.txt'), False)
        self.gives(why(rules[::-1], 'notes/old/may.txt'), 2)

    def test_by_a_path_that_it_lies_within(self):
        self.assertIs(picked([('-', 'a')], 'a/b/c'), False)
        self.assertIs(picked([('-', 'a/?')], 'a/b/c'), False)
        self.assertIs(picked([('-', 'b')], 'a/b/c'), True)
        self.assertIs(picked([('-', 'a/b/c/d')], 'a/b/c'), True)
        self.assertIs(picked([('-', '*')], 'a/b/c'), False)
        self.assertIs(picked([('-', 'a/b/c'), ('+', 'a')], 'a/b/c'), True)
        self.gives(why([('-', 'a'), ('+', 'a/b')], 'a/b/c'), 1)

    def test_rules_that_cannot_be(self):
        for rules in BAD_RULES:
            for ask in (lambda: check_rules(rules), lambda: picked(rules, 'c'), lambda: why(rules, 'c'),
                        lambda: picked_folder(rules, {'c': 'x'}), lambda: picked_folder(rules, {}),
                        lambda: idle_rules(rules, ['c']), lambda: idle_rules(rules, [])):
                self.refuses(BadRule, ask, rules)

    def test_check_rules(self):
        self.gives(check_rules([]), ())
        self.gives(check_rules([['+', 'a'], ('-', '**')]), (('+', 'a'), ('-', '**')))

    def test_overs_and(self):
        self.gives(overs_and('a/b/c'), ['a', 'a/b', 'a/b/c'])
        self.gives(overs_and('a'), ['a'])

    def test_picked_folder(self):
        table = {'notes/may': 'x', 'a/b/c': 'y', 'a/b/d': '', 'plan': 'z'}
        self.gives(picked_folder([], table), {'a/b/c': 'y', 'a/b/d': '', 'notes/may': 'x', 'plan': 'z'})
        self.gives(picked_folder([('-', 'a'), ('+', '**/d')], table), {'a/b/d': '', 'notes/may': 'x', 'plan': 'z'})
        self.gives(picked_folder((('-', '**'),), table), {})
        self.gives(picked_folder([['-', '**'], ['+', 'a/b']], table), {'a/b/c': 'y', 'a/b/d': ''})

    def test_picked_folder_by_its_paths(self):
        for table in small_folders()[::5]:
            for rules in pairs(2)[::3]:
                self.gives(picked_folder(rules, table),
                           {path: table[path] for path in sorted(table) if picked(rules, path)})

    def test_picked_folder_of_what_is_none(self):
        for table in ({'': 'x'}, {'A': 'x'}, {'a': 'x', 'a/b': 'y'}):
            self.refuses(BadPath, lambda: picked_folder([('-', '**')], table), table)
            self.refuses(BadPath, lambda: picked_folder(BAD_RULES[0], table), table)

    def test_why_tells_what_is_picked(self):
        for rules in pairs(1) + pairs(2):
            for path in PATHS:
                last = None
                for place, (sign, pattern) in enumerate(rules):
                    if any(fits(pattern, over) for over in overs_and(path)):
                        last = place
                self.gives(why(rules, path), last)
                self.assertIs(picked(rules, path), last is None or rules[last][0] == '+')


class TestIdleRules(Checks):
    def test_one_that_does_nothing(self):
        self.gives(idle_rules([('-', 'a'), ('+', 'x'), ('-', 'b')], ['a', 'b', 'c']), (1,))
        self.gives(idle_rules([('+', '**')], ['a', 'b']), (0,))
        self.gives(idle_rules([('-', 'a'), ('-', '**')], ['a', 'b']), (0,))

    def test_two_that_do_the_same(self):
        self.gives(idle_rules([('-', 'a'), ['-', '?']], ['a', 'aa']), (0, 1))
        self.gives(idle_rules([('-', 'a'), ('-', 'a'), ('-', 'b')], ['a', 'b']), (0, 1))

    def test_where_all_are_needed(self):
        self.gives(idle_rules([('-', '**'), ('+', 'a'), ('-', 'a/b')], ['a/b', 'a/c', 'b']), ())
        self.gives(idle_rules([], ['a']), ())

    def test_no_paths(self):
        self.gives(idle_rules([('-', 'a'), ('+', 'b')], []), (0, 1))

    def test_by_leaving_each_out(self):
        for rules in pairs(2) + pairs(3)[::17]:
            now = [picked(rules, path) for path in PATHS]
            wanted = [place for place in range(len(rules))
                      if [picked(rules[:place] + rules[place + 1:], path) for path in PATHS] == now]
            self.gives(idle_rules(rules, PATHS), tuple(wanted))


if __name__ == '__main__':
    unittest.main()
