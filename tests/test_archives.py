"""Point 12, archives, and points 1 and 18 as far as they speak of keepwright.archives."""

import unittest

from checks import Checks, small_folders
from keepwright.archives import (END, added, entries, entry, entry_at, index_of, is_count, is_path, listed, read, saved,
                                 text_of, thinned, written)
from keepwright.errors import BadPath, BadStore, NoSuch
from keepwright.stores import figure

TABLE = {'notes/may': 'sow\npeas\n', 'a': '', 'end': 'end\n', 'b': 'a 1 1\nx\n', 'z.z/_-': '\n'}
BAD_PATHS = ('', '/', 'a/', 'a//b', '.', '..', 'a/..', 'A', 'a b', 'a\n', '\u00e4')
BAD_FOLDERS = ({'': 'x'}, {'A': 'x'}, {'a': 'x', 'a/b': 'y'}, {'a': 'x', 'a-b': 'y', 'a/b': 'z'})


def plain_entry(path, text):
    """Return an entry as point 12 tells it."""
    return path + ' ' + str(len(text)) + ' ' + str(figure(text)) + '\n' + text + '\n'


def rows_of(*rows):
    """Return the text of some entries, in turn, without an end."""
    return ''.join(plain_entry(path, text) for path, text in rows)


def changed_at(text, place):
    """Return a text with another sign at a place."""
    return text[:place] + ('b' if text[place] != 'b' else 'c') + text[place + 1:]


class TestWritten(Checks):
    def test_a_bare_folder(self):
        self.gives(END, 'end')
        self.gives(written({}), 'end\n')
        self.gives(read('end\n'), {})
        self.gives(saved('end\n'), {})

    def test_heads_texts_and_the_end(self):
        self.gives(figure(''), 7)
        self.gives(written({'b/c': '', 'a': 'x'}), f"a 1 {7 * 257 + 120}\nx\nb/c 0 7\n\nend\n")

    def test_any_text_in_order_of_paths(self):
        wanted = ''.join(plain_entry(path, TABLE[path]) for path in sorted(TABLE)) + 'end\n'
        self.gives(written(TABLE), wanted)
        self.gives(read(wanted), dict(sorted(TABLE.items())))

    def test_entry(self):
        for path, text in TABLE.items():
            self.gives(entry(path, text), plain_entry(path, text))

    def test_what_cannot_be(self):
        for path in BAD_PATHS:
            self.refuses(BadPath, lambda: entry(path, 'x'))
        for table in BAD_FOLDERS:
            self.refuses(BadPath, lambda: written(table), table)

    def test_read_what_was_written(self):
        for table in small_folders():
            self.gives(read(written(table)), dict(sorted(table.items())))

    def test_long_texts(self):
        for count in (9, 10, 99999, 100000, 999999):
            table = {'a': 'x' * count, 'b': 'y'}
            self.gives(read(written(table)), table)
        # A length of seven figures is none, so that nothing from there on is whole.
        self.gives(saved(written({'a': 'x', 'b': 'x' * 1000000, 'c': 'y'})), {'a': 'x'})


class TestRead(Checks):
    def test_without_its_end(self):
        for text in ('', 'end', 'en', '\n', rows_of(('a', 'x')), rows_of(('a', 'x')) + 'end', 'END\n', ' end\n'):
            self.refuses(BadStore, lambda: read(text))

    def test_signs_behind_its_end(self):
        for more in ('x', '\n', 'end\n', ' ', rows_of(('b', 'y'))):
            self.refuses(BadStore, lambda: read(written({'a': 'x'}) + more))

    def test_later_entries_in_place_of_earlier_ones(self):
        text = rows_of(('b', 'one'), ('a', 'x'), ('b', 'two')) + 'end\n'
        self.gives(read(text), {'a': 'x', 'b': 'two'})
        self.gives(saved(text), {'a': 'x', 'b': 'two'})

    def test_paths_that_cannot_stand_together(self):
        text = rows_of(('a', 'x'), ('a/b', 'y'))
        self.refuses(BadPath, lambda: read(text + 'end\n'))
        self.refuses(BadPath, lambda: saved(text + 'end\n'))
        self.refuses(BadPath, lambda: saved(text))
        # Without its end it is no archive, whatever its paths are.
        self.refuses(BadStore, lambda: read(text))


class TestEntries(Checks):
    def test_a_path_that_stands_twice(self):
        text = rows_of(('b', 'one'), ('a', ''), ('b', 'three'))
        whole = text + 'end\n'
        self.gives(entries(whole), ((('b', 'one'), ('a', ''), ('b', 'three')), len(text)))
        self.gives(listed(whole), (('b', 3), ('a', 0), ('b', 5)))
        self.gives(text_of(whole, 'b'), 'three')
        self.gives(text_of(whole, 'a'), '')
        first = len(plain_entry('b', 'one'))
        self.gives(index_of(whole), {'a': first, 'b': first + len(plain_entry('a', ''))})
        self.gives(entry_at(whole, 0), ('b', 'one', first))
        self.gives(entry_at(whole, index_of(whole)['b']), ('b', 'three', len(text)))

    def test_none(self):
        for text in ('', 'end\n', 'x', '\n'):
            self.gives(entries(text), ((), 0))
            self.gives(listed(text), ())
            self.gives(index_of(text), {})
            self.gives(saved(text), {})
            self.refuses(NoSuch, lambda: text_of(text, 'a'))

    def test_entries_that_stand_together_badly(self):
        text = rows_of(('a', 'x'), ('a/b', 'y'))
        self.gives(entries(text), ((('a', 'x'), ('a/b', 'y')), len(text)))
        self.gives(listed(text), (('a', 1), ('a/b', 1)))
        self.gives(text_of(text, 'a/b'), 'y')

    def test_places_at_which_there_is_none(self):
        text = written({'a': 'x', 'b': 'y'})
        whole = {place: entry_at(text, place) for place in range(-len(text) - 3, len(text) + 4)}
        second = len(plain_entry('a', 'x'))
        self.gives({place: row for place, row in whole.items() if row is not None},
                   {0: ('a', 'x', second), second: ('b', 'y', 2 * second)})

    def test_no_such_path(self):
        for path in ('c', 'a/b', '', 'A', 'end'):
            self.refuses(NoSuch, lambda: text_of(written({'a': 'x', 'b/c': 'y'}), path))

    def test_heads_that_are_not_whole(self):
        mark = figure('x')
        heads = (f"a 2 {mark}", f"a 0 {mark}", f"a 1 {mark + 1}", "a 1 ", "a 1", "a", "", f"a 1000000 {mark}",
                 f"a 0000001 {mark}", f" 1 {mark}", f"A 1 {mark}", f"a/ 1 {mark}", f"a  1 {mark}", f"a 1 {mark} ",
                 f" a 1 {mark}", f"1 {mark}", f"a -1 {mark}", f"a x {mark}", f"a 1 0{mark}", f"a 1 {mark} b",
                 f"a +1 {mark}", f"a \u0661 {mark}", f"a \u00b9 {mark}")
        for head in heads:
            text = head + '\nx\n'
            self.gives(entry_at(text, 0), None)
            self.gives(entries(text + rows_of(('b', 'y'))), ((), 0))
            self.gives(listed(rows_of(('b', 'y')) + text), (('b', 1),))
            self.gives(saved(rows_of(('b', 'y')) + text + rows_of(('c', 'z'))), {'b': 'y'})
            self.refuses(BadStore, lambda: read(text + 'end\n'))
        self.gives(entry_at(f"a 1 {mark}\nx\n", 0), ('a', 'x', len(f"a 1 {mark}\nx\n")))

    def test_a_rows_end_that_is_missing(self):
        mark = figure('x')
        for text in (f"a 1 {mark}x\n", f"a 1 {mark}\nx", f"a 1 {mark}\nxy", f"a 1 {mark} x\n", f"a 1 {mark}\n"):
            self.gives(entry_at(text, 0), None)
            self.gives(entry_at(text + 'end\n', 0), None)
        # What stands ahead of a head that has no end isn't its text.
        self.gives(entry_at(f"x\na 1 {mark}?", 2), None)

    def test_each_sign_changed(self):
        text = rows_of(('notes/may', 'sow peas'))
        whole = [place for place in range(len(text)) if entry_at(changed_at(text, place), 0) is not None]
        # The figure is that of the text alone: another path's name is another path.
        self.gives(whole, list(range(len('notes/may'))))


class TestWords(Checks):
    def test_is_count(self):
        for word in ('0', '7', '10', '007', '000000', '999999', '123456'):
            self.assertIs(is_count(word), True)
        for word in ('', '1000000', '0000000', '1234567', '-1', '+1', '1 ', ' 1', '1.0', 'x', '1x', '\u0661', '\u00b2',
                     '1\n', '1_0'):
            self.assertIs(is_count(word), False)

    def test_is_path(self):
        for word in ('a', 'a/b', '0', '.a', 'a.', '...', '-', '_', 'end', 'a/b/c.d_e-f/9'):
            self.assertIs(is_path(word), True)
        for word in BAD_PATHS:
            self.assertIs(is_path(word), False)


class TestCut(Checks):
    def test_cut_at_every_place(self):
        for rows in (tuple(sorted(TABLE.items())), (('a', 'one'), ('b', 'end\n'), ('a', 'two\n\n'), ('c/d', ''))):
            text = rows_of(*rows) + 'end\n'
            ends = [len(rows_of(*rows[:count])) for count in range(len(rows) + 1)]
            for place in range(len(text) + 1):
                whole = rows[:len([end for end in ends[1:] if end <= place])]
                self.gives(saved(text[:place]), dict(sorted(dict(whole).items())))
                self.gives(entries(text[:place]), (whole, ends[len(whole)]))
                if place < len(text):
                    self.refuses(BadStore, lambda: read(text[:place]))

    def test_what_stands_behind_a_cut(self):
        text = written({'a': 'x', 'b': 'y', 'c': 'z'})
        second = index_of(text)['b']
        # What is whole behind what isn't doesn't count.
        self.gives(saved(text[:second] + text[second + 1:]), {'a': 'x'})


class TestAdded(Checks):
    def test_to_a_bare_archive(self):
        self.gives(added('end\n', TABLE), written(TABLE))
        self.gives(added('end\n', {}), 'end\n')

    def test_in_place_of_an_earlier_entry(self):
        text = written({'a': 'x', 'b': 'y'})
        more = added(text, {'c/d': 'z', 'a': 'new'})
        self.gives(more, rows_of(('a', 'x'), ('b', 'y'), ('a', 'new'), ('c/d', 'z')) + 'end\n')
        self.gives(read(more), {'a': 'new', 'b': 'y', 'c/d': 'z'})
        # An entry is put in even where it is alike.
        self.gives(added(text, {'b': 'y'}), rows_of(('a', 'x'), ('b', 'y'), ('b', 'y')) + 'end\n')

    def test_what_cannot_be(self):
        text = written({'a': 'x', 'b/c': 'y'})
        for table in BAD_FOLDERS + ({'a/b': 'z'}, {'b': 'z'}, {'b/c/d': 'z'}, {'d': 'w', 'a/b/c': 'z'}):
            self.refuses(BadPath, lambda: added(text, table), table)

    def test_without_its_end(self):
        text = written({'a': 'x'})
        for one in (text[:-1], '', text + ' ', text + text):
            self.refuses(BadStore, lambda: added(one, {'b': 'y'}))
            self.refuses(BadStore, lambda: added(one, {'B': 'y'}))
            self.refuses(BadStore, lambda: thinned(one))
        self.refuses(BadPath, lambda: added(rows_of(('a', 'x'), ('a/b', 'y')) + 'end\n', {'c': 'z'}))

    def test_thinned(self):
        text = rows_of(('b', 'one'), ('a', 'x'), ('b', 'two')) + 'end\n'
        self.gives(thinned(text), written({'a': 'x', 'b': 'two'}))
        self.gives(thinned(written(TABLE)), written(TABLE))
        self.gives(thinned('end\n'), 'end\n')
        self.refuses(BadPath, lambda: thinned(rows_of(('a', 'x'), ('a/b', 'y')) + 'end\n'))


if __name__ == '__main__':
    unittest.main()
