"""Point 6, days, and points 1 and 18 as far as they speak of keepwright.days."""

import unittest

from checks import Checks, small_folders, state
from keepwright.days import Days
from keepwright.errors import BadPath, BadPiece, BadSize, NoSuch
from keepwright.stores import Store
from keepwright.trees import get_folder, needs, put_folder

LONG = 'the quick brown fox jumps over the lazy dog\nand all that, the quick brown fox jumps over it again'
BAD_FOLDERS = ({'': 'x'}, {'A': 'x'}, {'a': 'x', 'a/b': 'y'}, {'a': 'x', 'a-b': 'y', 'a/b': 'z'})
# What a folder was at each time: "c" comes, stays, changes, goes and comes again.
KEPT = {
    3: {'a/b': LONG},
    4: {'a/b': LONG, 'c': 'x'},
    7: {'c': 'x', 'd/e/f': 'y'},
    8: {'c': 'z', 'd/e/f': 'y'},
    20: {'d/e/f': 'y', 'd/g': LONG + LONG},
    21: {'d/e/f': 'y', 'c': 'z', 'd/g': LONG},
}


def kept_days(kept=KEPT):
    """Return the days of a table of times to folders."""
    days = Days()
    for time, table in kept.items():
        days.keep(time, table)
    return days


class TestKeep(Checks):
    def test_bare_days(self):
        days = Days()
        self.gives(days.times, {})
        self.assertIs(type(days.store), Store)
        self.gives(days.store.pieces, {})
        self.gives(days.needed(), ())
        self.gives(days.sweep(), ())
        self.gives(days.hurt(), ())
        self.gives(days.when('a'), ())
        self.gives(days.shown(), ((), ()))
        self.gives(days.forget(()), None)
        other = Days()
        other.keep(0, {'a': 'x'})
        self.gives(days.times, {})
        self.gives(days.store.pieces, {})

    def test_how_many_pieces_are_fresh(self):
        days = Days()
        # A piece, a list and a tree.
        self.gives(days.keep(0, {'a': 'x'}), 3)
        self.gives(days.keep(1, {'a': 'x'}), 0)
        self.gives(days.keep(2, {'b': 'x', 'a': 'x'}), 1)
        self.gives(days.keep(3, {'b/c': 'x', 'a': 'x'}), 2)
        self.gives(days.keep(4, {'b/c': 'x', 'a': 'x'}), 0)
        self.gives(days.keep(5, {}), 1)
        self.gives(days.keep(6, {'a': 'x'}), 0)
        self.gives(days.times, {time: days.times[time] for time in range(7)})
        self.gives(days.times[6], days.times[0])

    def test_fresh_pieces_go_by_what_the_store_has_then(self):
        days = Days()
        days.store.put('px')
        self.gives(days.keep(0, {'a': 'x'}), 2)
        days.store.pieces[days.store.find('px')] = 'broken'
        # The piece anew, the list and the tree by its new name.
        self.gives(days.keep(1, {'a': 'x'}), 3)
        self.gives(days.give(1), {'a': 'x'})
        days.store.pieces.clear()
        self.gives(days.keep(2, {'a': 'x'}), 3)

    def test_times_that_are_not_later_than_all(self):
        days = kept_days()
        for time in (21, 20, 9, 0, 3, -1):
            for table in ({'a': 'x'}, {}, KEPT[21]) + BAD_FOLDERS:
                self.refuses(BadSize, lambda: days.keep(time, table), days, table)
        self.gives(days.keep(22, {}), 1)

    def test_folders_that_can_not_be(self):
        for days in (Days(), kept_days()):
            for table in BAD_FOLDERS:
                self.refuses(BadPath, lambda: days.keep(30, table), days, table)

    def test_any_first_time(self):
        for time in (0, 5, 9999, -3):
            days = Days()
            self.gives(days.keep(time, {}), 1)
            self.gives(list(days.times), [time])

    def test_times_go_by_the_table_as_it_is_then(self):
        days = kept_days()
        days.times[50] = days.times[4]
        self.refuses(BadSize, lambda: days.keep(50, {}), days)
        self.refuses(BadSize, lambda: days.keep(30, {}), days)
        del days.times[50]
        del days.times[21]
        self.gives(days.keep(21, KEPT[21]), 0)
        # A table told out of order: the latest time isn't its last.
        days.times = {9: days.times[3], 2: days.times[4]}
        self.refuses(BadSize, lambda: days.keep(9, {}), days)
        self.gives(days.last_at(10), 9)
        self.gives(days.shown()[0], ((2, days.times[2]), (9, days.times[9])))
        days.times.clear()
        days.keep(1, {'a': 'x'})
        self.gives(days.give(1), {'a': 'x'})

    def test_a_kept_folder_is_not_changed_from_outside(self):
        days, table = Days(), {'a': 'x'}
        days.keep(0, table)
        table['b'] = 'y'
        days.give(0)['c'] = 'z'
        self.gives(days.give(0), {'a': 'x'})


class TestGive(Checks):
    def setUp(self):
        self.days = kept_days()

    def test_at_a_kept_time_and_between_two(self):
        for time in range(3, 30):
            last = max(kept for kept in KEPT if kept <= time)
            self.gives(self.days.last_at(time), last)
            self.gives(self.days.give(time), dict(sorted(KEPT[last].items())))
            for path, text in KEPT[last].items():
                self.gives(self.days.text_at(time, path), text)

    def test_ahead_of_all(self):
        for time in (2, 0, -5):
            self.refuses(NoSuch, lambda: self.days.give(time), self.days)
            self.refuses(NoSuch, lambda: self.days.last_at(time), self.days)
            self.refuses(NoSuch, lambda: self.days.text_at(time, 'a/b'), self.days)
        bare = Days()
        self.refuses(NoSuch, lambda: bare.give(5), bare)
        self.refuses(NoSuch, lambda: bare.last_at(5), bare)
        self.refuses(NoSuch, lambda: bare.text_at(5, 'a'), bare)

    def test_texts_that_are_not_there(self):
        for path in ('c', 'a', 'b', '', 'a/b/c', 'a/'):
            self.refuses(NoSuch, lambda: self.days.text_at(3, path), self.days)
        self.refuses(NoSuch, lambda: self.days.text_at(20, 'c'), self.days)
        self.refuses(NoSuch, lambda: self.days.text_at(20, 'd'), self.days)

    def test_what_is_hurt(self):
        self.days.store.drop(self.days.times[7])
        self.refuses(NoSuch, lambda: self.days.give(7), self.days)
        self.refuses(NoSuch, lambda: self.days.text_at(7, 'c'), self.days)
        self.days.store.pieces[self.days.times[8]] = 't'
        self.refuses(BadPiece, lambda: self.days.give(8), self.days)
        self.refuses(BadPiece, lambda: self.days.text_at(8, 'c'), self.days)
        self.gives(self.days.give(4), KEPT[4])

    def test_text_at_reads_only_what_leads_there(self):
        self.days.store.pieces[self.days.store.find('pz')] = 'broken'
        self.gives(self.days.text_at(21, 'd/e/f'), 'y')
        self.refuses(BadPiece, lambda: self.days.text_at(21, 'c'), self.days)


class TestForgetAndSweep(Checks):
    def setUp(self):
        self.days = kept_days()

    def test_forget(self):
        times = self.days.times
        self.gives(self.days.forget([7, 3]), None)
        self.gives(list(self.days.times), [4, 8, 20, 21])
        self.assertIs(self.days.times, times)
        self.gives(self.days.give(7), KEPT[4])
        self.refuses(NoSuch, lambda: self.days.give(3), self.days)
        self.gives(self.days.forget(()), None)
        self.gives(self.days.forget((4, 4)), None)
        self.gives(list(self.days.times), [8, 20, 21])

    def test_times_of_which_one_is_not_there(self):
        for times in ((5,), (3, 5), [5, 3], (3, 4, 7, 8, 20, 21, 22), (-1, 3), (3, 0, 3)):
            self.refuses(NoSuch, lambda: self.days.forget(times), self.days, times)

    def test_what_is_forgotten_stays_stored(self):
        pieces = state(self.days.store)
        self.days.forget((3, 21))
        self.assertEqual(state(self.days.store), pieces)

    def test_nothing_to_sweep(self):
        was = state(self.days)
        self.gives(self.days.needed(), self.days.store.names())
        self.gives(self.days.sweep(), ())
        self.assertEqual(state(self.days), was)

    def test_sweep(self):
        spare = self.days.store.put('no day needs it')
        self.days.forget((3, 4, 20))
        store = Store(self.days.store.shown())
        wanted = sorted({name for time in (7, 8, 21) for name in needs(store, self.days.times[time])})
        self.gives(self.days.needed(), tuple(wanted))
        gone = self.days.sweep()
        self.assertIn(spare, gone)
        self.gives(gone, tuple(sorted(name for name in store.pieces if name not in wanted)))
        self.gives(self.days.store.names(), tuple(wanted))
        for time in (7, 8, 21):
            self.gives(self.days.give(time), dict(sorted(KEPT[time].items())))
        was = state(self.days)
        self.gives(self.days.sweep(), ())
        self.assertEqual(state(self.days), was)

    def test_sweep_of_all(self):
        names = self.days.store.names()
        self.days.forget(KEPT)
        self.gives(self.days.needed(), ())
        self.gives(self.days.sweep(), names)
        self.gives(self.days.store.pieces, {})

    def test_broken_pieces_that_no_day_needs_are_swept(self):
        self.days.store.pieces['5.0'] = 'x'
        self.gives(self.days.sweep(), ('5.0',))

    def test_nothing_is_swept_where_something_needed_is_hurt(self):
        self.days.store.put('no day needs it')
        name = self.days.store.find('py')
        was = dict(self.days.store.pieces)
        self.days.store.pieces[name] = 'broken'
        self.refuses(BadPiece, self.days.needed, self.days)
        self.refuses(BadPiece, self.days.sweep, self.days)
        del self.days.store.pieces[name]
        self.refuses(NoSuch, self.days.needed, self.days)
        self.refuses(NoSuch, self.days.sweep, self.days)
        self.days.store.pieces[name] = was[name]
        self.gives(len(self.days.sweep()), 1)

    def test_needed_goes_by_the_times_as_they_are_then(self):
        store = self.days.store
        del self.days.times[21]
        self.days.times[30] = put_folder(store, {'k': 'l'})
        wanted = {name for top in self.days.times.values() for name in needs(store, top)}
        self.gives(self.days.needed(), tuple(sorted(wanted)))


class TestSideBySide(Checks):
    def setUp(self):
        self.days = kept_days()

    def test_when(self):
        self.gives(self.days.when('c'), ((4, 'x'), (8, 'z'), (20, None), (21, 'z')))
        self.gives(self.days.when('a/b'), ((3, LONG), (7, None)))
        self.gives(self.days.when('d/e/f'), ((7, 'y'),))
        self.gives(self.days.when('d/g'), ((20, LONG + LONG), (21, LONG)))
        self.gives(self.days.when('a'), ())
        self.gives(self.days.when('no'), ())
        self.gives(self.days.when(''), ())

    def test_when_of_bare_texts(self):
        days = kept_days({1: {}, 2: {'a': ''}, 3: {'a': ''}, 4: {}, 5: {'a': 'x'}, 6: {'a': ''}})
        self.gives(days.when('a'), ((2, ''), (4, None), (5, 'x'), (6, '')))

    def test_when_goes_by_times_in_order(self):
        days = kept_days({1: {'a': 'x'}, 2: {'a': 'y'}})
        days.times = {2: days.times[2], 1: days.times[1]}
        self.gives(days.when('a'), ((1, 'x'), (2, 'y')))
        days.forget((1,))
        self.gives(days.when('a'), ((2, 'y'),))

    def test_when_where_something_is_hurt(self):
        self.days.store.drop(self.days.times[7])
        self.refuses(NoSuch, lambda: self.days.when('c'), self.days)
        self.days.forget((7,))
        self.days.store.pieces[self.days.times[8]] = 'x'
        self.refuses(BadPiece, lambda: self.days.when('c'), self.days)

    def test_between(self):
        for one in KEPT:
            for other in KEPT:
                paths = {**KEPT[one], **KEPT[other]}
                wanted = sorted(path for path in paths if KEPT[one].get(path) != KEPT[other].get(path))
                self.gives(self.days.between(one, other), tuple(wanted))
        self.gives(self.days.between(4, 20), ('a/b', 'c', 'd/e/f', 'd/g'))

    def test_between_times_that_are_not_kept(self):
        for one, other in ((5, 4), (4, 5), (5, 5), (2, 3), (22, 21), (4, 0)):
            self.refuses(NoSuch, lambda: self.days.between(one, other), self.days)

    def test_between_reads_no_alike_parts(self):
        for piece in ('px', 'pz', 'py'):
            self.days.store.drop(self.days.store.find(piece))
        self.gives(self.days.between(7, 8), ('c',))
        self.days.store.drop(self.days.times[7])
        self.gives(self.days.between(7, 7), ())
        self.refuses(NoSuch, lambda: self.days.between(7, 8), self.days)

    def test_shown(self):
        days = kept_days({5: {'a': 'x'}, 6: {}})
        store = days.store
        self.gives(days.shown(), (((5, store.find(f'ta {store.find("l" + store.find("px"))}')), (6, store.find('t'))),
                                  store.shown()))
        self.gives(len(days.shown()[1]), 4)


class TestHurt(Checks):
    def test_where_nothing_is(self):
        days = kept_days()
        was = state(days)
        self.gives(days.hurt(), ())
        self.assertEqual(state(days), was)
        days.store.put('no day needs it')
        days.store.pieces['5.0'] = 'broken, and no day needs it'
        self.gives(days.hurt(), ())

    def test_each_piece_missing_or_broken(self):
        days = kept_days()
        pieces = dict(days.store.pieces)
        rows = {time: needs(days.store, name) for time, name in days.times.items()}
        for name in pieces:
            wanted = tuple(time for time in KEPT if name in rows[time])
            for change in ({}, {name: 'broken'}, {name: pieces[name] + 'x'}, {name: ''}):
                days.store.pieces = {each: pieces[each] for each in pieces if each != name} | change
                was = state(days)
                self.gives(days.hurt(), wanted)
                self.assertEqual(state(days), was)
            days.store.pieces = dict(pieces)
        self.gives(days.hurt(), ())

    def test_all_hurt_and_in_order(self):
        days = kept_days()
        days.times = dict(sorted(days.times.items(), reverse=True))
        days.store.pieces.clear()
        self.gives(days.hurt(), tuple(sorted(KEPT)))

    def test_names_of_no_tree(self):
        days = kept_days()
        days.times[22] = days.store.find('py')
        days.times[23] = 'no.0'
        days.times[24] = days.store.put(f'tA {days.store.put("l")}')
        self.gives(days.hurt(), (22, 23, 24))
        self.refuses(BadPiece, lambda: days.give(22), days)
        self.refuses(NoSuch, lambda: days.give(23), days)
        self.refuses(BadPath, lambda: days.give(24), days)


class TestMainPromise(Checks):
    def test_kept_forgotten_and_swept_in_turn(self):
        days, held = Days(), {}
        for time, table in enumerate(small_folders() + [KEPT[20], KEPT[4], KEPT[20]]):
            days.keep(time, table)
            held[time] = table
            if time % 3 == 2:
                days.forget((time - 1, time - 2 - time % 2))
                del held[time - 1], held[time - 2 - time % 2]
                days.sweep()
            if time % 40 == 0 or time == 200:
                wanted = set()
                for kept in held:
                    self.assertEqual(days.give(kept), held[kept])
                    wanted.update(needs(days.store, days.times[kept]))
                if time % 3 == 2:
                    self.assertEqual(set(days.store.pieces), wanted)
                self.assertEqual(len(set(days.store.pieces.values())), len(days.store.pieces))
        days.sweep()
        self.gives(days.hurt(), ())
        self.assertEqual({time: days.give(time) for time in held}, held)
        store = Store()
        for table in held.values():
            put_folder(store, table)
        self.assertEqual(sorted(days.store.pieces.values()), sorted(store.pieces.values()))
        self.assertEqual([get_folder(days.store, days.times[time]) for time in held], list(held.values()))


if __name__ == '__main__':
    unittest.main()
