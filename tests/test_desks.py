"""Point 17, desks, and points 1 and 18 as far as they speak of keepwright.desks."""

import unittest

from checks import Checks, state
from keepwright import errors
from keepwright.days import Days
from keepwright.desks import FIGURES, Desk, done_again, lines_of, number
from keepwright.errors import BadPath, BadStore, BadText, NoSuch
from keepwright.stores import figure

# Lines and their answers, in turn.
SAID = (
    ('list', ''), ('days', ''), ('size', '0 0'),
    ('put notes/may sow-peas', '1'), ('put plan dig', '1'), ('put plan dig', '0'), ('put notes/june x=1', '1'),
    ('list', 'notes/june notes/may plan'), ('show plan', 'dig'), ('show notes/june', 'x=1'),
    ('keep 5', '9'), ('keep 6', '0'), ('days', '5 6'),
    ('put plan rest', '1'), ('drop notes/may', '1'), ('put b/c y', '1'),
    ('since 5', '+b/c -notes/may *plan'), ('since 9999', '+b/c -notes/may *plan'),
    ('was 5 plan', 'dig'), ('was 0006 notes/may', 'sow-peas'),
    ('pick - b', '2'), ('pick + b/?', '3'), ('pick - **', '0'), ('pick + notes/**', '1'),
    ('keep 30', '2'), ('days', '5 6 30'), ('was 30 notes/june', 'x=1'),
    ('since 30', '+b/c +plan'),
    ('back 7', '3'), ('list', 'notes/june notes/may plan'), ('since 6', ''), ('back 5', '0'),
    ('thin 1 2 0 0', '1 0'), ('days', '6 30'), ('thin 1 0 0 0', '1 7'), ('days', '30'), ('thin 1 0 0 0', '0 0'),
    ('size', '4 42'), ('back 30', '2'), ('list', 'notes/june'),
    ('thin 0 0 0 0', '1 4'), ('size', '0 0'), ('days', ''),
)
DEEDS = ('put', 'drop', 'back', 'pick', 'keep', 'thin')
# Lines that are refused by a desk that has said START, and the word for each.
START = ('put a/b x', 'put c y', 'keep 5', 'pick - c', 'keep 7', 'drop c', 'put d z')
REFUSED = (
    ('', 'text'), (' ', 'text'), ('\n', 'text'), ('list\n', 'text'), ('put e x\n', 'text'), ('put e x\nlist', 'text'),
    ('x', 'text'), ('List', 'text'), ('put', 'text'), ('put e', 'text'), ('put e x y', 'text'), ('drop', 'text'),
    ('drop a/b c', 'text'), ('back', 'text'), ('back 5 7', 'text'), ('pick', 'text'), ('pick +', 'text'),
    ('pick + a b', 'text'), ('pick +a', 'text'), ('keep', 'text'), ('keep 8 9', 'text'), ('thin', 'text'),
    ('thin 1 2 3', 'text'), ('thin 1 2 3 4 5', 'text'), ('list a', 'text'), ('days 5', 'text'), ('show', 'text'),
    ('show a/b d', 'text'), ('was', 'text'), ('was 5', 'text'), ('was 5 a/b c', 'text'), ('since', 'text'),
    ('since 5 7', 'text'), ('size 1', 'text'), ('error: text', 'text'),
    ('keep x', 'text'), ('keep 12345', 'text'), ('keep -8', 'text'), ('keep +8', 'text'), ('keep 8.', 'text'),
    ('keep 1_0', 'text'), ('keep \u0661', 'text'), ('back x', 'text'), ('back 00005', 'text'),
    ('was 00005 a/b', 'text'), ('since 00005', 'text'), ('thin 1 1 1 00001', 'text'),
    ('thin x 1 1 1', 'text'), ('thin -1 1 1 1', 'text'),
    ('put A x', 'path'), ('put / x', 'path'), ('put a/../b x', 'path'), ('put a x', 'path'), ('put a/b/c x', 'path'),
    ('pick * a', 'rule'), ('pick a +', 'rule'), ('pick + a**', 'rule'), ('pick - a//b', 'rule'), ('pick - A', 'rule'),
    ('keep 7', 'size'), ('keep 0', 'size'), ('keep 0006', 'size'),
    ('drop c', 'no such'), ('drop a', 'no such'), ('drop A', 'no such'), ('show c', 'no such'), ('show a', 'no such'),
    ('back 4', 'no such'), ('back 0', 'no such'), ('since 4', 'no such'), ('was 4 a/b', 'no such'),
    ('was 5 d', 'no such'), ('was 7 c', 'no such'), ('was 7 a', 'no such'), ('was 7 A', 'no such'),
)


def desk_of(lines):
    """Return a desk to which lines are said."""
    desk = Desk()
    for line in lines:
        desk.say(line)
    return desk


def written_row(place, line):
    """Return the row of a written line as point 17 tells it."""
    body = str(place) + ' ' + line
    return body + ' ' + str(figure(body)) + '\n'


def written_text(lines):
    """Return the text of written lines."""
    return ''.join(written_row(place, line) for place, line in enumerate(lines))


def deeds_in(said):
    """Return the lines that are written."""
    return [line for line, answer in said if line.split(' ')[0] in DEEDS]


class TestNumber(Checks):
    def test_one_to_four_figures(self):
        self.gives(FIGURES, '0123456789')
        for word, wanted in (('0', 0), ('7', 7), ('42', 42), ('999', 999), ('9999', 9999), ('0007', 7), ('0000', 0)):
            self.gives(number(word), wanted)

    def test_none_five_and_other_signs(self):
        for word in ('', '10000', '00007', 'x', '1x', '-1', '+1', '1.', ' 1', '1 ', '1_0', '\u0661', '\u00b2', '1\n'):
            self.refuses(BadText, lambda: number(word))


class TestSay(Checks):
    def test_bare(self):
        desk = Desk()
        self.gives((desk.folder, desk.picks, desk.text, desk.many), ({}, (), '', 0))
        self.assertIs(type(desk.kept), Days)
        desk.say('put a x')
        desk.say('keep 1')
        desk.say('pick - a')
        other = Desk()
        self.gives((other.folder, other.picks, other.text, other.many), ({}, (), '', 0))
        self.gives(other.kept.shown(), ((), ()))

    def test_each_answer(self):
        desk = Desk()
        for line, answer in SAID:
            with self.subTest(line=line):
                self.gives(desk.say(line), answer)

    def test_do_answers_alike(self):
        desk = Desk()
        for line, answer in SAID:
            self.gives(desk.do(line), answer)

    def test_how_much_is_stored(self):
        desk = desk_of(('put a x', 'keep 1'))
        # A piece "px", its list and the tree.
        size = len('px') + len('l' + f"{figure('px')}.0") + len(f"ta {figure('l' + str(figure('px')) + '.0')}.0")
        self.gives(desk.say('size'), f"3 {size}")

    def test_what_is_written(self):
        desk = Desk()
        for line, _ in SAID:
            was, many = desk.text, desk.many
            desk.say(line)
            if line.split(' ')[0] in DEEDS:
                self.gives((desk.text, desk.many), (was + written_row(many, line), many + 1))
            else:
                self.gives((desk.text, desk.many), (was, many))
        self.gives(desk.text, written_text(deeds_in(SAID)))

    def test_blanks_between_words(self):
        desk = Desk()
        self.gives(desk.say('  put  a   x '), '1')
        self.gives(desk.say(' list '), 'a')
        self.gives(desk.text, written_row(0, 'put a x'))

    def test_the_fields(self):
        desk = desk_of(('put b x', 'put a y', 'pick - b', 'pick + *', 'keep 3'))
        self.gives(desk.folder, {'a': 'y', 'b': 'x'})
        self.gives(desk.picks, (('-', 'b'), ('+', '*')))
        self.gives(desk.kept.give(3), {'a': 'y', 'b': 'x'})
        self.gives(desk.many, 5)

    def test_keep_keeps_what_is_picked(self):
        desk = desk_of(('put a/b x', 'put c y', 'pick - a', 'keep 1', 'pick + a', 'keep 2', 'pick - **', 'keep 3'))
        self.gives([desk.kept.give(time) for time in (1, 2, 3)], [{'c': 'y'}, {'a/b': 'x', 'c': 'y'}, {}])
        self.gives(desk.folder, {'a/b': 'x', 'c': 'y'})
        self.gives(desk.say('since 3'), '+a/b +c')
        self.gives(desk.say('back 3'), '2')
        self.gives(desk.say('list'), '')
        self.gives(desk.say('show c'), 'error: no such')

    def test_thin_by_each_count(self):
        times = (1, 5, 30, 100, 200, 700, 701)
        for counts, wanted in (('2 0 0 0', '700 701'), ('0 3 0 0', '100 200 701'), ('0 0 2 0', '200 701'),
                               ('0 0 0 9', '200 701'), ('1 1 1 1', '701'), ('0001 5 0 0', '5 30 100 200 701'),
                               ('9999 0 0 0', '1 5 30 100 200 700 701')):
            desk = desk_of(('put a x',) + tuple(f"keep {time}" for time in times))
            gone = len(times) - len(wanted.split(' '))
            self.gives(desk.say('thin ' + counts), f"{gone} 0")
            self.gives(desk.say('days'), wanted)

    def test_each_refusal_by_its_word(self):
        desk = desk_of(START)
        self.gives(desk.say('list'), 'a/b d')
        was = state(desk)
        for line, word in REFUSED:
            with self.subTest(line=line):
                self.gives(desk.say(line), 'error: ' + word)
                self.gives(state(desk), was)
        self.gives(desk.say('put a/b x'), '0')

    def test_nothing_kept(self):
        for line in ('back 5', 'since 5', 'was 5 a'):
            self.gives(Desk().say(line), 'error: no such')
        self.gives(Desk().say('back 12345'), 'error: text')
        self.gives(Desk().say('thin 0 0 0 0'), '0 0')

    def test_each_kind_by_its_word(self):
        class Refusing(Desk):
            def do(self, line):
                raise getattr(errors, line)('why')

        for kind, word in (('BadText', 'text'), ('BadPath', 'path'), ('BadPiece', 'piece'), ('BadRule', 'rule'),
                           ('BadPaper', 'paper'), ('BadSize', 'size'), ('Lost', 'lost'), ('NoSuch', 'no such')):
            self.gives(Refusing().say(kind), 'error: ' + word)

    def test_do_refuses_by_its_kind(self):
        kinds = {'text': BadText, 'path': BadPath, 'no such': NoSuch}
        for line, word in REFUSED:
            if word in kinds:
                desk = desk_of(START)
                self.refuses(kinds[word], lambda: desk.do(line), desk)


class TestHurt(Checks):
    """Pieces and times may be changed from outside."""

    def hurt_desk(self, text, change):
        """Return a desk of which the piece of a text, kept first, is changed."""
        desk = desk_of(('put a one', 'put b x', 'keep 1', 'put a two', 'keep 2', 'put a three'))
        change(desk.kept.store.pieces, desk.kept.store.find(text))
        return desk

    def test_a_broken_piece(self):
        desk = self.hurt_desk('pone', lambda pieces, name: pieces.update({name: 'pnone'}))
        was = state(desk)
        for line in ('back 1', 'was 1 a', 'since 1'):
            self.gives(desk.say(line), 'error: piece')
        # What would stay needs a piece that is broken: nothing is forgotten.
        for line in ('thin 2 0 0 0', 'thin 9 9 9 9'):
            self.gives(desk.say(line), 'error: piece')
        self.gives(state(desk), was)
        self.gives(desk.say('was 1 b'), 'x')
        self.gives(desk.say('back 2'), '1')
        self.gives(desk.say('thin 1 0 0 0'), '1 3')
        self.gives(desk.say('days'), '2')

    def test_a_missing_piece(self):
        desk = self.hurt_desk('ptwo', lambda pieces, name: pieces.pop(name))
        was = state(desk)
        for line in ('back 2', 'was 2 a', 'since 2', 'thin 1 0 0 0'):
            self.gives(desk.say(line), 'error: no such')
        self.gives(state(desk), was)
        self.gives(desk.say('back 1'), '1')
        self.gives(desk.say('thin 0 0 0 0'), '2 7')

    def test_a_time_left_out_and_put_in(self):
        desk = desk_of(('put a one', 'keep 1', 'put a two', 'keep 2'))
        desk.kept.times[9] = desk.kept.times[1]
        desk.kept.times[0] = desk.kept.times[2]
        del desk.kept.times[1]
        self.gives(desk.say('days'), '0 2 9')
        self.gives(desk.say('was 9 a'), 'one')
        self.gives(desk.say('was 1 a'), 'two')
        self.gives(desk.say('keep 8'), 'error: size')
        self.gives(desk.say('thin 2 0 0 0'), '1 0')
        self.gives(desk.say('days'), '2 9')


class TestParts(Checks):
    """What say asks, asked for itself."""

    def test_let(self):
        desk = desk_of(('put a x', 'put b y'))
        text = desk.text
        self.gives(desk.let({'c': 'z', 'b': 'w'}, ['put', 'c', 'z']), 3)
        self.gives(desk.folder, {'b': 'w', 'c': 'z'})
        self.gives((desk.text, desk.many), (text + written_row(2, 'put c z'), 3))
        for table in ({'A': ''}, {'a': '', 'a/b': ''}):
            self.refuses(BadPath, lambda: desk.let(table, ['put', 'c', 'z']), desk, table)

    def test_write(self):
        desk = Desk()
        self.gives(desk.write(('put', 'a', 'x'), 'answer'), 'answer')
        self.gives(desk.write(['keep', '1'], '7'), '7')
        self.gives((desk.text, desk.many), (written_text(('put a x', 'keep 1')), 2))

    def test_answer(self):
        desk = desk_of(START)
        for words, wanted in ((['list'], 'a/b d'), (('days',), '5 7'), (['show', 'd'], 'z'), (['was', '6', 'c'], 'y'),
                              (('since', '7'), '+d')):
            self.gives(desk.answer(words), wanted)
        was = state(desk)
        for words in ([], ['x'], ['put', 'a', 'x'], ['list', 'a'], ['show'], ['was', '5'], ['was', 'x', 'a'], ['keep'],
                      ('thin', '1', '1', '1', '1')):
            self.refuses(BadText, lambda: desk.answer(words), desk)
        for words in (['show', 'c'], ['was', '4', 'c'], ['since', '4']):
            self.refuses(NoSuch, lambda: desk.answer(words), desk)
        self.gives(state(desk), was)


class TestDoneAgain(Checks):
    def test_lines_of(self):
        self.gives(lines_of(''), ())
        lines = deeds_in(SAID)
        self.gives(lines_of(desk_of(lines).text), tuple(lines))

    def test_a_row_without_an_end(self):
        text = written_text(('put a x', 'keep 1'))
        self.gives(lines_of(text[:-1]), ('put a x',))
        self.gives(lines_of(text + '2 drop'), ('put a x', 'keep 1'))
        self.gives(lines_of('anything'), ())

    def test_rows_that_are_not_whole(self):
        row = written_row(0, 'put a x')
        for text in (written_row(1, 'put a x'), row + row, row + written_row(2, 'keep 1'), '\n', row + '\n', 'x\n',
                     row[:-2] + '\n', '0' + row, ' ' + row, row[:-1] + ' \n', written_row('00', 'put a x'),
                     written_row(-1, 'put a x')):
            self.refuses(BadStore, lambda: lines_of(text))
            self.refuses(BadStore, lambda: done_again(text))
        for place in range(len(row) - 1):
            for sign in '0x \n':
                if row[place] != sign:
                    self.refuses(BadStore, lambda: lines_of(row[:place] + sign + row[place + 1:]))

    def test_it_answers_as_the_desk_does(self):
        asked = ('list', 'days', 'size', 'show plan', 'show a/b', 'was 5 plan', 'was 30 notes/june', 'since 6',
                 'since 30', 'back 6', 'keep 31', 'pick + **', 'keep 40', 'thin 2 0 0 0', 'size', 'list')
        for lines in (deeds_in(SAID), START, [line for line, _ in REFUSED], ()):
            for count in range(len(lines) + 1):
                desk = desk_of(lines[:count])
                other = done_again(desk.text)
                self.gives(state(other), state(desk))
                for line in asked:
                    self.gives(other.say(line), desk.say(line))
                self.gives(state(other), state(desk))

    def test_cut_at_every_place(self):
        lines = deeds_in(SAID)
        text = desk_of(lines).text
        ends = [len(desk_of(lines[:count]).text) for count in range(len(lines) + 1)]
        for place in range(len(text) + 1):
            many = len([end for end in ends[1:] if end <= place])
            desk = done_again(text[:place])
            self.gives((desk.text, desk.many), (text[:ends[many]], many))
            if place in ends:
                self.gives(state(desk), state(desk_of(lines[:many])))

    def test_lines_that_cannot_be(self):
        for lines in (('drop a',), ('put a x', 'put a/b y'), ('put A x',), ('keep 1', 'keep 1'), ('pick * a',),
                      ('back 1',), ('',), ('what',), ('put a',), ('thin 1 1 1',), ('keep 12345',)):
            self.refuses(BadStore, lambda: done_again(written_text(lines)))
        self.refuses(BadStore, lambda: done_again(written_row(0, 'put a x').replace('0 put', '0  put')))

    def test_lines_that_are_not_written(self):
        for lines in (('list',), ('put a x', 'show a'), ('put a x', 'size', 'drop a'), ('put  a x',), ('put a x ',)):
            self.refuses(BadStore, lambda: done_again(written_text(lines)))


if __name__ == '__main__':
    unittest.main()
