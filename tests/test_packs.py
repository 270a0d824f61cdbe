"""Point 10, packs, and points 1 and 18 as far as they speak of keepwright.packs."""

import unittest
from itertools import product

from checks import Checks, state
from keepwright.errors import BadPaper, BadSize
from keepwright.packs import (alive, at_least, check_rooms, check_sizes, fewest, first_fit, packed, place_of,
                              rooms_read, to_write, written_anew)

SIX = {'a': 5, 'b': 4, 'c': 4, 'd': 3, 'e': 2, 'f': 2}
# Names are told out of order, and the room is the last.
BAD_SIZES = (({'a': 0}, 10), ({'b': 3, 'a': -1}, 10), ({'a': 11}, 10), ({'a': 1, 'b': 11}, 10), ({}, 0), ({'a': 1}, 0),
             ({}, -1), ({'a': -1}, -1))


def named(sizes):
    """Return a table of letters to sizes."""
    return dict(zip('abcdefghijklmnopqrstuvwxyz', sizes))


def packed_by_trying(left, table, rooms, room, most):
    """Return the first rooms found by trying names in turn into rooms in order, then a fresh one."""
    if not left:
        return tuple(tuple(sorted(lot)) for lot in rooms)
    for place, lot in enumerate(rooms):
        if sum(table[name] for name in lot) + table[left[0]] <= room:
            more = rooms[:place] + (lot + (left[0],),) + rooms[place + 1:]
            found = packed_by_trying(left[1:], table, more, room, most)
            if found is not None:
                return found
    if len(rooms) < most:
        return packed_by_trying(left[1:], table, rooms + ((left[0],),), room, most)
    return None


def fewest_by_trying(sizes, room):
    """Return first_fit's rooms, or where fewer can be the first found of the fewest."""
    rooms = first_fit(sizes, room)
    turn = sorted(sizes, key=lambda name: (-sizes[name], name))
    for most in range(len(rooms)):
        found = packed_by_trying(turn, sizes, (), room, most)
        if found is not None:
            return found
    return rooms


class TestSizes(Checks):
    def test_good_sizes_in_order_of_names(self):
        self.gives(check_sizes({'b': 3, 'a': 10, 'c': 1}, 10), {'a': 10, 'b': 3, 'c': 1})
        self.gives(check_sizes({}, 1), {})
        self.gives(check_sizes({'a': 1}, 1), {'a': 1})

    def test_a_table_of_its_own(self):
        sizes = {'b': 3, 'a': 10}
        check_sizes(sizes, 10)['c'] = 1
        self.gives(sizes, {'b': 3, 'a': 10})

    def test_bad_sizes(self):
        for sizes, room in BAD_SIZES:
            for ask in (check_sizes, first_fit, fewest, at_least):
                self.refuses(BadSize, lambda: ask(sizes, room), sizes)
            self.refuses(BadSize, lambda: check_rooms(sizes, room, [[name] for name in sizes]), sizes)


class TestFirstFit(Checks):
    def test_greater_ones_first(self):
        self.gives(first_fit(SIX, 10), (('a', 'b'), ('c', 'd', 'e'), ('f',)))
        self.gives(first_fit({'a': 1, 'b': 9, 'c': 5}, 10), (('a', 'b'), ('c',)))
        self.gives(first_fit({'z': 9, 'm': 1}, 10), (('m', 'z'),))

    def test_like_sizes_in_order_of_names(self):
        self.gives(first_fit({'d': 5, 'b': 5, 'c': 5, 'a': 5}, 10), (('a', 'b'), ('c', 'd')))
        self.gives(first_fit({'c': 6, 'b': 6, 'a': 6}, 10), (('a',), ('b',), ('c',)))

    def test_the_first_with_as_much_left(self):
        self.gives(first_fit(named((7, 6, 4, 3)), 10), (('a', 'd'), ('b', 'c')))
        self.gives(first_fit(named((7, 6, 3, 3)), 10), (('a', 'c'), ('b', 'd')))
        # Into the first that has enough, though another would be full with it.
        self.gives(first_fit(named((6, 7, 3)), 10), (('b', 'c'), ('a',)))
        self.gives(first_fit(named((5, 8, 2)), 10), (('b', 'c'), ('a',)))

    def test_bare_sizes(self):
        self.gives(first_fit({}, 10), ())
        self.gives(fewest({}, 10), ())
        self.gives(at_least({}, 10), 0)
        self.gives(check_rooms({}, 10, ()), 0)

    def test_nothing_handed_in_changes(self):
        sizes = {'b': 3, 'a': 10}
        was = state(sizes)
        first_fit(sizes, 10)
        fewest(sizes, 10)
        at_least(sizes, 10)
        self.assertEqual(state(sizes), was)


class TestFewest(Checks):
    def test_where_fewer_can_be(self):
        self.gives(fewest(SIX, 10), (('a', 'd', 'e'), ('b', 'c', 'f')))
        self.gives(fewest(dict(reversed(SIX.items())), 10), (('a', 'd', 'e'), ('b', 'c', 'f')))

    def test_where_those_of_first_fit_are_the_fewest(self):
        for sizes, room in ((named((7, 6, 4, 3)), 10), (named((6, 6, 6)), 10), (named((6, 7, 3)), 10), ({'a': 1}, 1)):
            self.gives(fewest(sizes, room), first_fit(sizes, room))
        # No fewer than three, though two are enough for the sum and for the great ones.
        self.gives(at_least(named((4, 4, 4, 4, 4)), 10), 2)
        self.gives(fewest(named((4, 4, 4, 4, 4)), 10), (('a', 'b'), ('c', 'd'), ('e',)))

    def test_held_against_trying(self):
        for room in (7, 10):
            for sizes in product((2, 3, 4, 5), repeat=6):
                if list(sizes) == sorted(sizes):
                    # The names of the sizes in two orders.
                    for row in (sizes, sizes[::2] + sizes[1::2]):
                        table = named(row)
                        rooms = fewest(table, room)
                        self.gives(rooms, fewest_by_trying(table, room))
                        self.gives(check_rooms(table, room, rooms), len(rooms))
                        self.assertLessEqual(at_least(table, room), len(rooms))
                        self.assertLessEqual(len(rooms), len(first_fit(table, room)))

    def test_many_names(self):
        table = {f'n{number:03d}': 1 + number * 7 % 13 for number in range(200)}
        rooms = first_fit(table, 40)
        self.gives(check_rooms(table, 40, rooms), len(rooms))
        self.gives(len(fewest(table, 40)), at_least(table, 40))

    def test_one_that_takes_a_search(self):
        table = named((6, 6, 6, 6, 5, 5, 5, 5, 4, 4, 4, 4, 3, 3, 3, 3, 2, 2, 2, 2))
        for room in (10, 11, 13, 16):
            rooms = fewest(table, room)
            self.gives(check_rooms(table, room, rooms), len(rooms))


class TestAtLeast(Checks):
    def test_by_the_sum(self):
        self.gives(at_least(SIX, 10), 2)
        self.gives(at_least(named((5, 5, 5, 5)), 10), 2)
        self.gives(at_least(named((5, 5, 5, 5, 1)), 10), 3)
        self.gives(at_least({'a': 1}, 10), 1)
        self.gives(at_least({'a': 10}, 10), 1)

    def test_by_the_great_ones(self):
        self.gives(at_least(named((6, 6, 6)), 10), 3)
        self.gives(at_least(named((6, 6, 6, 1)), 10), 3)
        # Half a room isn't more than half of it.
        self.gives(at_least(named((5, 5)), 10), 1)
        self.gives(at_least(named((3, 3, 3)), 5), 3)
        self.gives(at_least(named((2, 2)), 5), 1)


class TestPacked(Checks):
    TABLE = {'a': 5, 'b': 4, 'c': 4, 'd': 3, 'e': 2, 'f': 2, 'g': 10, 'h': 1}

    def test_beside_rooms_that_are_there(self):
        self.gives(packed(('d', 'e'), self.TABLE, (('a',), ('b', 'c')), 10, 2), (('a', 'd', 'e'), ('b', 'c')))
        self.gives(packed(['b', 'a'], self.TABLE, [['d', 'f']], 10, 2), (('b', 'd', 'f'), ('a',)))
        self.gives(packed(['a', 'b'], self.TABLE, (('f', 'd'),), 10, 3), (('a', 'd', 'f'), ('b',)))
        self.gives(packed(('g',), self.TABLE, (('a',),), 10, 2), (('a',), ('g',)))
        self.gives(packed((), self.TABLE, (('a',), ('b',)), 10, 2), (('a',), ('b',)))
        self.gives(packed(('a',), self.TABLE, ((), ()), 10, 3), (('a',), ()))
        self.gives(packed((), self.TABLE, (), 10, 0), ())
        self.gives(packed((), self.TABLE, (), 10, 5), ())

    def test_names_are_put_back_where_they_lead_nowhere(self):
        self.gives(packed(('e', 'd'), self.TABLE, (('a', 'f'), ('b', 'c')), 10, 2), (('a', 'd', 'f'), ('b', 'c', 'e')))
        self.gives(packed(('h', 'a', 'b', 'e', 'd', 'c'), self.TABLE, (), 10, 2), (('a', 'b', 'h'), ('c', 'd', 'e')))

    def test_where_it_can_not_be(self):
        self.gives(packed(('g',), self.TABLE, (('h',),), 10, 1), None)
        self.gives(packed(('h',), self.TABLE, (), 10, 0), None)
        self.gives(packed(('g',), self.TABLE, (), 9, 3), None)
        self.gives(packed(('a', 'b', 'c'), self.TABLE, (), 9, 1), None)
        self.gives(packed(('a', 'b', 'd'), self.TABLE, (('c', 'e'),), 8, 2), None)
        self.gives(packed(('h',), self.TABLE, (('a',), ('b',)), 10, 1), None)
        self.gives(packed((), self.TABLE, (('a',), ('b',)), 10, 1), None)

    def test_in_the_order_that_is_told(self):
        names = ('a', 'b', 'c', 'd', 'e', 'f', 'h')
        for turn in (names, names[::-1], names[3:] + names[:3], ('e', 'a', 'h', 'b', 'f', 'd', 'c')):
            for room in (5, 6, 7, 8, 11, 21):
                for most in range(6):
                    for rooms in ((), (('g',),), (('a', 'e'), ('f',))):
                        if len(rooms) <= most:
                            wanted = packed_by_trying(turn, self.TABLE, rooms, room, most)
                            self.gives(packed(turn, self.TABLE, rooms, room, most), wanted)


class TestCheckRooms(Checks):
    def test_rooms_that_hold_all(self):
        self.gives(check_rooms(SIX, 10, (('a', 'd', 'e'), ('b', 'c', 'f'))), 2)
        self.gives(check_rooms(SIX, 10, [['f', 'b', 'c'], ['e', 'a', 'd']]), 2)
        self.gives(check_rooms(SIX, 5, [[name] for name in SIX]), 6)

    def test_each_name_once(self):
        for rooms in ((('a', 'd', 'e'), ('b', 'c')), (('a', 'd', 'e'), ('b', 'c', 'f'), ('f',)),
                      (('a', 'd', 'd'), ('b', 'c', 'f', 'e')), (('a', 'd', 'e'), ('b', 'c', 'f'), ('g',)), (),
                      (('a', 'd', 'e'), ('b', 'c', 'g'))):
            self.refuses(BadPaper, lambda: check_rooms(SIX, 10, rooms), rooms)
        self.refuses(BadPaper, lambda: check_rooms({}, 10, (('a',),)))

    def test_bare_rooms(self):
        for bare in ((), []):
            self.refuses(BadPaper, lambda: check_rooms(SIX, 10, (('a', 'd', 'e'), bare, ('b', 'c', 'f'))))
            self.refuses(BadPaper, lambda: check_rooms({}, 10, (bare,)))

    def test_one_too_full(self):
        self.refuses(BadPaper, lambda: check_rooms(SIX, 10, (('a', 'b', 'e'), ('c', 'd', 'f'))))
        self.refuses(BadPaper, lambda: check_rooms(SIX, 19, (tuple(SIX),)))
        self.gives(check_rooms(SIX, 20, (tuple(SIX),)), 1)


class TestRooms(Checks):
    SIZES = {'a': 5, 'b': 4, 'c': 4, 'd': 3, 'e': 2, 'f': 2, 'g': 6}
    ROOMS = (('a', 'b'), ('c', 'd', 'e'), ('f',), ('g',))

    def test_alive(self):
        self.gives(alive(self.SIZES, self.ROOMS, ('b', 'd', 'e', 'f', 'no')), ((4, 9), (5, 9), (2, 2), (0, 6)))
        self.gives(alive(self.SIZES, [['a', 'b'], []], ['a', 'b', 'a']), ((9, 9), (0, 0)))
        self.gives(alive(self.SIZES, (), ('a',)), ())
        self.gives(alive(self.SIZES, self.ROOMS, ()), ((0, 9), (0, 9), (0, 2), (0, 6)))

    def test_to_write(self):
        needed = ('b', 'd', 'e', 'f')
        self.gives(to_write(self.SIZES, self.ROOMS, needed, (1, 2)), (0, 3))
        self.gives(to_write(self.SIZES, self.ROOMS, needed, (4, 9)), (3,))
        self.gives(to_write(self.SIZES, self.ROOMS, needed, [5, 9]), (0, 3))
        self.gives(to_write(self.SIZES, self.ROOMS, needed, (51, 90)), (0, 1, 3))
        self.gives(to_write(self.SIZES, self.ROOMS, needed, (1, 1)), (0, 1, 3))
        self.gives(to_write(self.SIZES, self.ROOMS, needed, (2, 1)), (0, 1, 2, 3))
        # Nothing is less than no part.
        self.gives(to_write(self.SIZES, self.ROOMS, (), (0, 1)), ())
        self.gives(to_write(self.SIZES, self.ROOMS, (), (1, 1000)), (0, 1, 2, 3))
        self.gives(to_write(self.SIZES, (), needed, (1, 1)), ())

    def test_parts_that_can_not_be(self):
        for part in ((-1, 1), (1, 0), (0, 0), (1, -1), (-1, -1), (-5, 9)):
            self.refuses(BadSize, lambda: to_write(self.SIZES, self.ROOMS, ('a',), part))
            self.refuses(BadSize, lambda: to_write(self.SIZES, (), (), part))
            self.refuses(BadSize, lambda: written_anew(self.SIZES, self.ROOMS, ('a',), part, 10))

    def test_written_anew(self):
        needed = ('b', 'd', 'e', 'f')
        was = state((self.SIZES, self.ROOMS))
        self.gives(written_anew(self.SIZES, self.ROOMS, needed, (1, 2), 10), ((('c', 'd', 'e'), ('f',), ('b',)), 4))
        self.gives(written_anew(self.SIZES, self.ROOMS, needed, (1, 1), 10), ((('f',), ('b', 'd', 'e')), 9))
        self.gives(written_anew(self.SIZES, self.ROOMS, needed, (2, 1), 10), ((('b', 'd', 'e'), ('f',)), 11))
        self.gives(written_anew(self.SIZES, self.ROOMS, needed, (2, 1), 4), ((('b',), ('d',), ('e', 'f')), 11))
        self.gives(written_anew(self.SIZES, self.ROOMS, needed, (0, 1), 10), (self.ROOMS, 0))
        self.gives(written_anew(self.SIZES, self.ROOMS, (), (1, 2), 10), ((), 0))
        self.gives(written_anew(self.SIZES, self.ROOMS, tuple('abcdefg'), (1, 1), 10), (self.ROOMS, 0))
        self.gives(written_anew(self.SIZES, [list(lot) for lot in self.ROOMS], list(needed), [1, 2], 10),
                   ((('c', 'd', 'e'), ('f',), ('b',)), 4))
        self.gives(written_anew(self.SIZES, (), needed, (1, 2), 10), ((), 0))
        self.assertEqual(state((self.SIZES, self.ROOMS)), was)

    def test_what_a_fresh_room_can_not_hold(self):
        self.refuses(BadSize, lambda: written_anew(self.SIZES, self.ROOMS, ('b',), (1, 2), 3))

    def test_nothing_needed_is_lost(self):
        for count in range(8):
            needed = tuple('gfedcba'[:count])
            for part in ((1, 4), (1, 2), (3, 4), (1, 1)):
                rooms, signs = written_anew(self.SIZES, self.ROOMS, needed, part, 9)
                stays = [name for lot in rooms for name in lot]
                self.assertEqual(len(set(stays)), len(stays))
                self.assertLessEqual(set(needed), set(stays))
                gone = [self.ROOMS[place] for place in to_write(self.SIZES, self.ROOMS, needed, part)]
                self.gives(rooms[:4 - len(gone)], tuple(lot for lot in self.ROOMS if lot not in gone))
                moved = [name for lot in gone for name in lot if name in needed]
                self.assertEqual(sorted(name for lot in rooms[4 - len(gone):] for name in lot), sorted(moved))
                self.gives(signs, sum(self.SIZES[name] for name in moved))
                self.gives(to_write(self.SIZES, rooms, needed, part), ())

    def test_place_of(self):
        self.gives(place_of(self.ROOMS, 'b'), 0)
        self.gives(place_of(self.ROOMS, 'f'), 2)
        self.gives(place_of([list(lot) for lot in self.ROOMS], 'e'), 1)
        for rooms in (self.ROOMS, ()):
            self.gives(place_of(rooms, 'no'), None)

    def test_rooms_read(self):
        self.gives(rooms_read(self.ROOMS, ('g', 'b', 'a', 'no')), (0, 3))
        self.gives(rooms_read(self.ROOMS, ['e', 'f']), (1, 2))
        self.gives(rooms_read(self.ROOMS, ('no',)), ())
        self.gives(rooms_read(self.ROOMS, ()), ())
        self.gives(rooms_read((), ('a',)), ())


if __name__ == '__main__':
    unittest.main()
