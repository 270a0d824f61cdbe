"""Point 1's main promise, as far as it has landed: whatever is kept, thinned, forgotten and swept comes back whole."""

import unittest

from checks import Checks
from keepwright.chains import Chain, kept_by
from keepwright.days import Days
from keepwright.deltas import best_delta, delta, made
from keepwright.packs import check_rooms, fewest, first_fit, rooms_read, written_anew
from keepwright.rules import Rule
from keepwright.stores import Store, copied
from keepwright.trees import get_folder, needs

WORDS = ('sow', 'peas', 'dig', 'rest', 'AAA', 'PeQ', 'the quick brown fox', '\n', '=', ' ')
PATHS = ('a', 'a-b', 'notes/may', 'notes/june', 'notes/old/april', 'b/c/d/e', 'b.c', 'plan')


def numbers(seed):
    """Give numbers that look like any, the same ones each time."""
    while True:
        seed = (seed * 1103515245 + 12345) % 2 ** 31
        yield seed // 65536


def edited(table, row):
    """Return a folder behind a few changes."""
    found = dict(table)
    for _ in range(next(row) % 4):
        path = PATHS[next(row) % len(PATHS)]
        if next(row) % 4 == 0:
            found.pop(path, None)
        else:
            found[path] = found.get(path, '')[next(row) % 5:] + WORDS[next(row) % len(WORDS)] * (next(row) % 3)
    return found


def folders_of(seed, count):
    """Return folders that follow each other, a few changes apart."""
    row = numbers(seed)
    found = [{}]
    while len(found) < count:
        found.append(edited(found[-1], row))
    return found


class TestDays(Checks):
    def holds(self, days, held):
        """Hold days against the folders that are kept, and the store against what they need."""
        self.assertEqual(sorted(days.times), sorted(held))
        for time, table in held.items():
            self.gives(days.give(time), dict(sorted(table.items())))
        self.gives(days.hurt(), ())
        self.assertEqual(len(set(days.store.pieces.values())), len(days.store.pieces))

    def test_kept_thinned_forgotten_and_swept(self):
        for seed, rule in ((1, Rule(2, 3, 2, 1)), (2, Rule(1, 0, 0, 0)), (3, Rule(0, 7, 4, 12)), (4, Rule(0, 0, 0, 0)),
                           (5, Rule(3, 0, 2, 0))):
            row = numbers(seed)
            days, held, time = Days(), {}, 0
            for table in folders_of(seed, 90):
                time += 1 + next(row) % 40
                days.keep(time, table)
                held[time] = table
                if next(row) % 5 == 0:
                    gone = rule.goes(list(days.times))
                    days.forget(gone)
                    held = {kept: held[kept] for kept in held if kept not in gone}
                    wanted = {name for top in days.times.values() for name in needs(days.store, top)}
                    swept = days.sweep()
                    self.holds(days, held)
                    # Nothing that a kept time needs is swept, and nothing else is left.
                    self.gives(days.store.names(), tuple(sorted(wanted)))
                    self.assertEqual(set(swept) & wanted, set())
                    self.gives(days.sweep(), ())
            self.holds(days, held)

    def test_a_day_copied_to_another_store(self):
        days = Days()
        for time, table in enumerate(folders_of(7, 30)):
            days.keep(time, table)
        other = Store()
        for time in (3, 17, 29):
            name = days.times[time]
            copied(days.store, other, needs(days.store, name))
            self.gives(get_folder(other, name), days.give(time))
            self.gives(copied(days.store, other, needs(days.store, name)), ())

    def test_pieces_in_rooms(self):
        days = Days()
        for time, table in enumerate(folders_of(8, 40)):
            days.keep(time, table)
        sizes = {name: len(piece) for name, piece in days.store.shown()}
        room = max(sizes.values())
        rooms = first_fit(sizes, room)
        self.assertLessEqual(check_rooms(sizes, room, fewest(sizes, room)), check_rooms(sizes, room, rooms))
        days.forget(range(0, 30))
        needed = days.needed()
        fresh, signs = written_anew(sizes, rooms, needed, (1, 2), room)
        names = [name for lot in fresh for name in lot]
        self.assertLessEqual(set(needed), set(names))
        self.assertEqual(len(set(names)), len(names))
        self.assertEqual(rooms_read(fresh, names), tuple(range(len(fresh))))
        self.assertLessEqual(signs, sum(sizes[name] for name in needed))


class TestOtherWays(Checks):
    def test_chains(self):
        folders = folders_of(11, 40)
        chain = Chain()
        for place, table in enumerate(folders):
            chain.keep(table, place // 2 if place > 0 else None)
        levels = kept_by(folders, [place % 5 for place in range(40)])
        for place, table in enumerate(folders):
            self.gives(chain.give(place), dict(sorted(table.items())))
            self.gives(levels.give(place), dict(sorted(table.items())))

    def test_deltas(self):
        texts = ['\n'.join(path + text for path, text in table.items()) for table in folders_of(12, 25)]
        for old, new in zip(texts, texts[1:]):
            self.gives(made(old, delta(old, new, 4)), new)
            self.gives(made(old, best_delta(old, new)), new)


if __name__ == '__main__':
    unittest.main()
