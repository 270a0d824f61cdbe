"""Point 1's main promise, over the whole program: whatever is kept, cut, shared or done again comes back whole."""

import unittest
from itertools import combinations

from checks import Checks, state
from keepwright.archives import added, read, saved, thinned, written
from keepwright.chains import Chain, kept_by
from keepwright.days import Days
from keepwright.deltas import best_delta, delta, made
from keepwright.desks import Desk, done_again
from keepwright.folders import changes_to
from keepwright.journals import Journal, again, opened, shortened
from keepwright.packs import check_rooms, fewest, first_fit, rooms_read, written_anew
from keepwright.rules import Rule
from keepwright.shares import LETTERS, agree, by_sums, gathered, spread
from keepwright.squeezes import in_words, out_of_words, squeezed, told_again, weights_of, words_for
from keepwright.stores import Store, copied
from keepwright.syncs import brought, sent, to_send
from keepwright.trees import get_folder, needs

WORDS = ('sow', 'peas', 'dig', 'rest', 'AAA', 'PeQ', 'the quick brown fox', '\n', '=', ' ')
PATHS = ('a', 'a-b', 'notes/may', 'notes/june', 'notes/old/april', 'b/c/d/e', 'b.c', 'plan')


def numbers(seed):
    """Give numbers that look like any, the same ones each time."""
    while True:
        seed = (seed * 1103515245 + 12345) % 2 ** 31
        yield seed // 65536


def edited(table, row):
    """Return a folder behind a few changes."""
    found = dict(table)
    for _ in range(next(row) % 4):
        path = PATHS[next(row) % len(PATHS)]
        if next(row) % 4 == 0:
            found.pop(path, None)
        else:
            found[path] = found.get(path, '')[next(row) % 5:] + WORDS[next(row) % len(WORDS)] * (next(row) % 3)
    return found


def folders_of(seed, count):
    """Return folders that follow each other, a few changes apart."""
    row = numbers(seed)
    found = [{}]
    while len(found) < count:
        found.append(edited(found[-1], row))
    return found


class TestDays(Checks):
    def holds(self, days, held):
        """Hold days against the folders that are kept, and the store against what they need."""
        self.assertEqual(sorted(days.times), sorted(held))
        for time, table in held.items():
            self.gives(days.give(time), dict(sorted(table.items())))
        self.gives(days.hurt(), ())
        self.assertEqual(len(set(days.store.pieces.values())), len(days.store.pieces))

    def test_kept_thinned_forgotten_and_swept(self):
        for seed, rule in ((1, Rule(2, 3, 2, 1)), (2, Rule(1, 0, 0, 0)), (3, Rule(0, 7, 4, 12)), (4, Rule(0, 0, 0, 0)),
                           (5, Rule(3, 0, 2, 0))):
            row = numbers(seed)
            days, held, time = Days(), {}, 0
            for table in folders_of(seed, 90):
                time += 1 + next(row) % 40
                days.keep(time, table)
                held[time] = table
                if next(row) % 5 == 0:
                    gone = rule.goes(list(days.times))
                    days.forget(gone)
                    held = {kept: held[kept] for kept in held if kept not in gone}
                    wanted = {name for top in days.times.values() for name in needs(days.store, top)}
                    swept = days.sweep()
                    self.holds(days, held)
                    # Nothing that a kept time needs is swept, and nothing else is left.
                    self.gives(days.store.names(), tuple(sorted(wanted)))
                    self.assertEqual(set(swept) & wanted, set())
                    self.gives(days.sweep(), ())
            self.holds(days, held)

    def test_a_day_copied_to_another_store(self):
        days = Days()
        for time, table in enumerate(folders_of(7, 30)):
            days.keep(time, table)
        other = Store()
        for time in (3, 17, 29):
            name = days.times[time]
            copied(days.store, other, needs(days.store, name))
            self.gives(get_folder(other, name), days.give(time))
            self.gives(copied(days.store, other, needs(days.store, name)), ())

    def test_pieces_in_rooms(self):
        days = Days()
        for time, table in enumerate(folders_of(8, 40)):
            days.keep(time, table)
        sizes = {name: len(piece) for name, piece in days.store.shown()}
        room = max(sizes.values())
        rooms = first_fit(sizes, room)
        self.assertLessEqual(check_rooms(sizes, room, fewest(sizes, room)), check_rooms(sizes, room, rooms))
        days.forget(range(0, 30))
        needed = days.needed()
        fresh, signs = written_anew(sizes, rooms, needed, (1, 2), room)
        names = [name for lot in fresh for name in lot]
        self.assertLessEqual(set(needed), set(names))
        self.assertEqual(len(set(names)), len(names))
        self.assertEqual(rooms_read(fresh, names), tuple(range(len(fresh))))
        self.assertLessEqual(signs, sum(sizes[name] for name in needed))


class TestOtherWays(Checks):
    def test_chains(self):
        folders = folders_of(11, 40)
        chain = Chain()
        for place, table in enumerate(folders):
            chain.keep(table, place // 2 if place > 0 else None)
        levels = kept_by(folders, [place % 5 for place in range(40)])
        for place, table in enumerate(folders):
            self.gives(chain.give(place), dict(sorted(table.items())))
            self.gives(levels.give(place), dict(sorted(table.items())))

    def test_deltas(self):
        texts = ['\n'.join(path + text for path, text in table.items()) for table in folders_of(12, 25)]
        for old, new in zip(texts, texts[1:]):
            self.gives(made(old, delta(old, new, 4)), new)
            self.gives(made(old, best_delta(old, new)), new)


def in_order(table):
    """Return a folder in order of its paths."""
    return dict(sorted(table.items()))


def plain(table):
    """Return a folder whose texts have only signs that a journal's texts may have, and that shares tell."""
    return {path: ''.join(sign if sign in LETTERS and sign not in ' =' else '-' for sign in text)
            for path, text in table.items()}


class TestCut(Checks):
    """Wherever a text is cut, the state behind its whole deeds comes back."""

    def holds_where_cut(self, text, ends, states, ask):
        """Hold what comes back of a text cut at each place against the states behind its deeds."""
        self.gives(len(ends), len(states))
        for place in range(len(text) + 1):
            self.gives(ask(text[:place]), states[len([end for end in ends if end <= place]) - 1])

    def test_journals(self):
        journal, ends, states = Journal(), [0], [{}]
        for table in folders_of(21, 25):
            journal.do(changes_to(journal.folder, plain(table)))
            ends.append(len(journal.text))
            states.append(in_order(plain(table)))
        self.holds_where_cut(journal.text, ends, states, lambda text: again(text)[0])
        self.holds_where_cut(journal.text, ends, states, lambda text: opened(text).folder)
        self.gives([journal.at(number) for number in range(journal.many + 1)], states)
        self.gives(shortened(journal).folder, journal.folder)

    def test_archives(self):
        text, ends, states, now = written({}), [0], [{}], {}
        for table in folders_of(22, 6):
            for path in sorted(table):
                if table[path] != now.get(path):
                    now[path] = table[path]
                    text = added(text, {path: table[path]})
                    ends.append(len(text) - len('end\n'))
                    states.append(in_order(now))
        self.assertGreater(len(ends), 5)
        self.holds_where_cut(text, ends, states, saved)
        self.gives(read(thinned(text)), read(text))

    def test_desks(self):
        desk, ends, states = Desk(), [0], [state(Desk())]
        row = numbers(23)
        time = 0
        while desk.many < 60:
            time += 1 + next(row) % 30
            path = PATHS[next(row) % len(PATHS)]
            line = (f"put {path} {next(row) % 9}", f"drop {path}", f"keep {time}", f"pick {'+-'[next(row) % 2]} {path}",
                    f"thin {next(row) % 3} 2 1 0", f"back {time - next(row) % 60}", "keep 0")[next(row) % 7]
            was = state(desk)
            if desk.say(line).startswith('error'):
                # What is refused changes nothing.
                self.gives(state(desk), was)
            else:
                ends.append(len(desk.text))
                states.append(state(desk))
        self.holds_where_cut(desk.text, ends, states, lambda text: state(done_again(text)))


class TestDesk(Checks):
    def test_each_kept_day_comes_back_whole(self):
        desk, held = Desk(), {}
        row = numbers(24)
        for time, table in enumerate(folders_of(24, 80)):
            for path, text in changes_to(desk.folder, plain(table)):
                desk.say(f"drop {path}" if text in (None, '') else f"put {path} {text}")
            desk.say(f"keep {time * 5}")
            held[time * 5] = dict(desk.folder)
            if next(row) % 4 == 0:
                desk.say(f"thin {next(row) % 4} 3 2 1")
                held = {kept: held[kept] for kept in held if kept in desk.kept.times}
                needed = {name for top in desk.kept.times.values() for name in needs(desk.kept.store, top)}
                self.gives(desk.kept.store.names(), tuple(sorted(needed)))
        for kept in sorted(held):
            self.gives(desk.kept.give(kept), held[kept])
            desk.say(f"back {kept}")
            self.gives(desk.folder, held[kept])
        self.assertEqual(len(set(desk.kept.store.pieces.values())), len(desk.kept.store.pieces))


class TestShares(Checks):
    def test_any_so_many_shares_give_a_text_back(self):
        for table in folders_of(31, 12):
            text = '='.join(path + ' ' + word for path, word in plain(table).items())
            for few, many in ((1, 2), (2, 4), (3, 5), (4, 4)):
                lots = dict(enumerate(spread(text, few, many)))
                for count in range(few, many + 1):
                    for places in combinations(range(many), count):
                        self.gives(gathered({place: lots[place] for place in places}, few), text)
                self.assertIs(agree(lots, few), True)
                others = [lots[place] for place in range(1, many)]
                self.gives(by_sums([by_sums([lots[0], *others]), *others]), lots[0])


class TestEachWay(Checks):
    """One folder comes back the same each way."""

    def ways(self, table):
        """Return what comes back of a folder by each way in which it can be kept."""
        days, chain, journal, desk = Days(), Chain(), Journal(), Desk()
        days.keep(1, {'other': 'x'})
        days.keep(2, table)
        chain.keep({'other': 'x'})
        chain.keep(table, 0)
        journal.do([('other', 'x')])
        journal.do(changes_to(journal.folder, table))
        # A line without its row's end has only signs that shares tell.
        line = shortened(journal).text[:-1]
        lots = dict(enumerate(spread(line, 3, 6)))
        shared = gathered({place: lots[place] for place in (5, 2, 4)}, 3)
        desk.let(table, ['put', 'other', 'x'])
        desk.say('keep 7')
        archive = written(table)
        squeeze = told_again(squeezed(archive, 30, 9))
        words = words_for(weights_of(archive))
        to_left, to_right = to_send({}, {}, table, 'left')
        return (days.give(2), chain.give(1), journal.folder, opened(journal.text).folder, opened(shared + '\n').folder,
                opened(line + '\n').folder, desk.kept.give(8), read(archive), saved(archive[:-1]), read(squeeze),
                read(out_of_words(in_words(archive, words), words)), brought({}, {}, table, 'both')[0],
                sent({}, to_left), sent(table, to_right), get_folder(days.store, days.times[2]),
                read(made('', delta('', archive, 4))))

    def test_each_way(self):
        for table in folders_of(41, 30):
            table = plain(table)
            for way, found in enumerate(self.ways(table)):
                with self.subTest(way=way, table=table):
                    self.gives(found, in_order(table))


if __name__ == '__main__':
    unittest.main()
