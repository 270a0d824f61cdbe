"""Point 16, journals, and points 1 and 18 as far as they speak of keepwright.journals."""

import unittest

from checks import Checks
from keepwright.errors import BadPath, BadStore, BadText
from keepwright.folders import changed
from keepwright.journals import (Journal, again, cut_lines, is_whole, line_of, opened, read_line, shortened,
                                 whole_lines)
from keepwright.stores import figure

# What was done in turn: paths put in, changed, left out, put in again, and nothing at all.
DONE = (
    (('a', 'x'), ('notes/may', 'sow')),
    (('a', None),),
    (),
    (('a/b', ''), ('a/c', '\t\r-'), ('notes/may', 'dig')),
    (('a/b', None), ('a/b', 'again')),
    (('notes/may', None), ('notes', 'all')),
)
BAD_TEXTS = (' ', 'a b', '\n', 'a\n', '=', 'a=b', 'a=')
BAD_CHANGES = ([('A', 'x')], [('', 'x')], [('b', None)], [('b', 'y'), ('b/c', 'z')], [('a/b', 'x')],
               [('c', 'x'), ('a', None), ('a', None)])


def plain_line(number, *words):
    """Return a line of a number and words as point 16 tells it."""
    body = ' '.join([str(number), str(len(words)), *words])
    return body + ' ' + str(figure(body)) + '\n'


def journal_of(deeds):
    """Return the journal of some deeds."""
    journal = Journal()
    for changes in deeds:
        journal.do(changes)
    return journal


def folders_of(deeds):
    """Return the folders behind each count of deeds, from none on."""
    found = [{}]
    for changes in deeds:
        found.append(changed(found[-1], changes))
    return found


class TestLines(Checks):
    def test_no_changes(self):
        self.gives(line_of(0, ()), plain_line(0))
        self.gives(plain_line(0), f"0 0 {figure('0 0')}\n")
        self.gives(read_line(plain_line(0)[:-1], 0), ())

    def test_a_text_and_a_path_left_out(self):
        self.gives(line_of(3, [('b', 'x'), ['a/c', None]]), plain_line(3, 'b=x', 'a/c'))
        self.gives(read_line(plain_line(3, 'b=x', 'a/c')[:-1], 3), (('b', 'x'), ('a/c', None)))

    def test_bare_texts(self):
        self.gives(line_of(12, (('a', ''),)), plain_line(12, 'a='))
        self.gives(read_line(plain_line(12, 'a=')[:-1], 12), (('a', ''),))

    def test_there_and_back(self):
        for number, changes in enumerate(DONE):
            line = line_of(number, changes)
            self.gives(line[-1], '\n')
            self.gives(read_line(line[:-1], number), changes)

    def test_another_number(self):
        line = plain_line(3, 'b=x')[:-1]
        for number in (0, 2, 4, 33, -3):
            self.gives(read_line(line, number), None)
        self.gives(read_line(plain_line('03', 'b=x')[:-1], 3), None)

    def test_a_changed_sign_at_each_place(self):
        for line in (plain_line(3), plain_line(3, 'b=x', 'a/c')):
            for place in range(len(line) - 1):
                for sign in ' \n=0ax':
                    if sign != line[place]:
                        self.gives(read_line(line[:place] + sign + line[place + 1:-1], 3), None)
                self.gives(read_line(line[:place] + line[place + 1:-1], 3), None)
                self.gives(read_line(line[:place] + ' ' + line[place:-1], 3), None)
                self.gives(read_line(line[:place], 3), None)
            self.gives(read_line(line, 3), None)
            self.gives(read_line(line[:-1] + ' ', 3), None)
            self.gives(read_line(line[:-1] + '0', 3), None)

    def test_lines_that_are_not_written(self):
        # Each has the right figure of what it tells, but isn't what line_of writes.
        for body in ('0 2 a=x', '0 0 a=x', '0 1', '0 1 a=x b', '0 x a=x', '0 01 a=x', '00 1 a=x', '0 -1', '0  1 a=x',
                     '0 1 a=b=c', '0 1 a==', ' 0 1 a=x', '0', '0 1 a=x '):
            self.gives(read_line(f"{body} {figure(body)}", 0), None)
        for line in ('', ' ', '0', '0 1 a=x', 'a', '   '):
            self.gives(read_line(line, 0), None)

    def test_texts_that_cannot_stand(self):
        for text in BAD_TEXTS:
            self.refuses(BadText, lambda: line_of(0, [('a', text)]))
            self.refuses(BadText, lambda: line_of(0, [('a', 'x'), ('b', None), ('c', text)]))


class TestJournal(Checks):
    def test_bare(self):
        journal = Journal()
        self.gives((journal.folder, journal.text, journal.many), ({}, '', 0))
        self.gives(journal.at(0), {})
        journal.do([('a', 'x')])
        self.gives(Journal().folder, {})

    def test_do(self):
        journal = Journal()
        for number, changes in enumerate(DONE):
            was = journal.text
            self.gives(journal.do(changes), None)
            self.gives(journal.folder, folders_of(DONE)[number + 1])
            self.gives(journal.text, was + line_of(number, changes))
            self.gives(journal.many, number + 1)

    def test_do_in_order_of_paths(self):
        journal = Journal()
        journal.do([['b', 'x'], ['a', 'y']])
        self.gives(journal.folder, {'a': 'y', 'b': 'x'})
        self.gives(journal.text, plain_line(0, 'b=x', 'a=y'))

    def test_what_cannot_be_is_not_written(self):
        journal = journal_of([(('a', 'x'),)])
        for changes in BAD_CHANGES:
            self.refuses(BadPath, lambda: journal.do(changes), journal, changes)
        for text in BAD_TEXTS:
            self.refuses(BadText, lambda: journal.do([('b', 'y'), ('c', text)]), journal)
            # Where neither path nor text can be, the path is told.
            self.refuses(BadPath, lambda: journal.do([('B', text)]), journal)

    def test_at_each_number(self):
        journal = journal_of(DONE)
        for number, folder in enumerate(folders_of(DONE)):
            self.gives(journal.at(number), folder)

    def test_at_what_there_is_not(self):
        for deeds in ((), DONE):
            journal = journal_of(deeds)
            for number in (-1, len(deeds) + 1, 99):
                self.refuses(BadStore, lambda: journal.at(number), journal)

    def test_at_gives_a_folder_of_its_own(self):
        journal = journal_of(DONE[:1])
        journal.at(1)['b'] = 'y'
        self.gives(journal.folder, folders_of(DONE)[1])


class TestTexts(Checks):
    def test_bare(self):
        self.gives(whole_lines(''), ())
        self.gives(again(''), ({}, 0))
        self.gives(again('', 5), ({}, 0))
        self.gives(cut_lines(''), 0)
        self.assertIs(is_whole(''), True)
        self.gives((opened('').folder, opened('').text, opened('').many), ({}, '', 0))

    def test_with_and_without_a_most(self):
        text = journal_of(DONE).text
        folders = folders_of(DONE)
        self.gives(whole_lines(text), DONE)
        self.gives(again(text), (folders[-1], len(DONE)))
        self.gives(again(text, None), (folders[-1], len(DONE)))
        for most in range(len(DONE) + 1):
            self.gives(again(text, most), (folders[most], most))
        self.gives(again(text, len(DONE) + 5), (folders[-1], len(DONE)))
        self.gives(again(text, -1), ({}, 0))

    def test_cut_at_every_place(self):
        text = journal_of(DONE).text
        folders = folders_of(DONE)
        ends = [len(journal_of(DONE[:count]).text) for count in range(len(DONE) + 1)]
        for place in range(len(text) + 1):
            cut = text[:place]
            many = len([end for end in ends[1:] if end <= place])
            self.gives(whole_lines(cut), DONE[:many])
            self.gives(again(cut), (folders[many], many))
            self.gives(cut_lines(cut), place - ends[many])
            self.assertIs(is_whole(cut), place == ends[many])
            journal = opened(cut)
            self.gives((journal.folder, journal.text, journal.many), (folders[many], text[:ends[many]], many))
            # A journal that is opened goes on.
            journal.do([('fresh', 'y')])
            self.gives(again(journal.text), (journal.folder, many + 1))

    def test_a_line_that_is_not_whole_in_the_middle(self):
        text = journal_of(DONE).text
        first = len(line_of(0, DONE[0]))
        for spoilt in (text[:first] + 'x' + text[first:], text[:first] + '\n' + text[first:],
                       text[:first] + text[first + 1:], text[:first] + text):
            self.gives(whole_lines(spoilt), DONE[:1])
            self.gives(again(spoilt), (folders_of(DONE)[1], 1))
            self.gives(opened(spoilt).text, text[:first])
            self.gives(cut_lines(spoilt), len(spoilt) - first)
            self.assertIs(is_whole(spoilt), False)
        self.gives(whole_lines(text[first:]), ())
        self.gives(whole_lines('\n' + text), ())

    def test_whole_lines_of_what_cannot_be(self):
        for words in (('A=x',), ('b',), ('a=x', 'a/b=y'), ('=x',)):
            text = plain_line(0, 'c=x') + plain_line(1, *words)
            self.gives(len(whole_lines(text)), 2)
            self.assertIs(is_whole(text), True)
            self.refuses(BadPath, lambda: again(text))
            self.refuses(BadPath, lambda: again(text, 2))
            self.refuses(BadPath, lambda: opened(text))
            self.gives(again(text, 1), ({'c': 'x'}, 1))

    def test_shortened(self):
        bare = shortened(Journal())
        self.gives((bare.folder, bare.text, bare.many), ({}, '', 0))
        bare = shortened(journal_of([(('a', 'x'),), (('a', None),)]))
        self.gives((bare.folder, bare.text, bare.many), ({}, '', 0))
        for count in range(1, len(DONE) + 1):
            journal = journal_of(DONE[:count])
            was = (dict(journal.folder), journal.text, journal.many)
            short = shortened(journal)
            self.gives(short.folder, journal.folder)
            self.gives(short.text, line_of(0, tuple(journal.folder.items())))
            self.gives(short.many, 1)
            self.gives(again(short.text), (journal.folder, 1))
            self.gives((journal.folder, journal.text, journal.many), was)
        self.gives(shortened(journal_of([(('b', 'x'), ('a', 'y'))])).text, plain_line(0, 'a=y', 'b=x'))


if __name__ == '__main__':
    unittest.main()
