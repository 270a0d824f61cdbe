"""Point 8, chains, and points 1 and 18 as far as they speak of keepwright.chains."""

import unittest
from itertools import product

from checks import Checks, small_folders, state
from keepwright.chains import Chain, all_marks, best_wholes, kept_by, levels
from keepwright.errors import BadPath, BadRule, BadSize, NoSuch

BAD_FOLDERS = ({'': 'x'}, {'A': 'x'}, {'a': 'x', 'a/b': 'y'}, {'a': 'x', 'a-b': 'y', 'a/b': 'z'})
FOLDERS = (
    {'a': 'one', 'b/c': 'two'},
    {'a': 'one', 'b/c': 'three'},
    {'b/c': 'three', 'b/d': ''},
    {},
    {'a': 'one', 'b/c': 'two', 'long/path': 'a text of many signs'},
    {'a': 'one', 'b/c': 'two', 'long/path': 'a text of many signs', 'e': 'x'},
)


def tree_chain():
    """Return a chain of rows that go by 0, None, 0, 1, 1, 3 and 5, of folders of their own."""
    chain = Chain()
    for place, since in enumerate((None, None, 0, 1, 1, 3, 5)):
        chain.keep({'a': 'x', 'b': str(place)}, since)
    return chain


class TestKeep(Checks):
    def test_a_bare_chain(self):
        chain = Chain()
        self.gives(chain.rows, [])
        self.gives(chain.to_keep(), 0)
        chain.keep({})
        self.gives(Chain().rows, [])

    def test_keep_whole_and_since_a_row(self):
        chain = Chain()
        self.gives(chain.keep({'b/c': 'two', 'a': 'one'}), 0)
        self.gives(chain.keep({'a': 'one', 'b/c': 'three'}, 0), 1)
        self.gives(chain.keep({'e': ''}, since=1), 2)
        self.gives(chain.keep({'a': 'one'}, None), 3)
        self.gives(chain.keep({'a': 'one'}, 3), 4)
        self.gives(chain.rows, [
            ('whole', {'a': 'one', 'b/c': 'two'}),
            ('since', 0, (('b/c', 'three'),)),
            ('since', 1, (('a', None), ('b/c', None), ('e', ''))),
            ('whole', {'a': 'one'}),
            ('since', 3, ()),
        ])

    def test_since_one_that_is_not_there(self):
        for chain in (Chain(), tree_chain()):
            for since in (len(chain.rows), len(chain.rows) + 5, -1, -7):
                self.refuses(NoSuch, lambda: chain.keep({'a': 'x'}, since), chain)

    def test_folders_that_can_not_be(self):
        for chain in (Chain(), tree_chain()):
            for table in BAD_FOLDERS:
                self.refuses(BadPath, lambda: chain.keep(table), chain, table)
        for table in BAD_FOLDERS:
            self.refuses(BadPath, lambda: chain.keep(table, 0), chain, table)

    def test_a_kept_folder_is_not_changed_from_outside(self):
        chain, table = Chain(), {'a': 'x'}
        chain.keep(table)
        table['b'] = 'y'
        chain.give(0)['c'] = 'z'
        self.gives(chain.give(0), {'a': 'x'})
        self.gives(chain.rows, [('whole', {'a': 'x'})])


class TestRows(Checks):
    def setUp(self):
        self.chain = tree_chain()
        self.was = state(self.chain)

    def tearDown(self):
        self.assertEqual(state(self.chain), self.was)

    def test_way(self):
        wanted = ((0,), (1,), (0, 2), (1, 3), (1, 4), (1, 3, 5), (1, 3, 5, 6))
        for place, way in enumerate(wanted):
            self.gives(self.chain.way(place), way)

    def test_hangs(self):
        wanted = ((0, 2), (1, 3, 4, 5, 6), (2,), (3, 5, 6), (4,), (5, 6), (6,))
        for place, rows in enumerate(wanted):
            self.gives(self.chain.hangs(place), rows)

    def test_give(self):
        for place in range(7):
            self.gives(self.chain.give(place), {'a': 'x', 'b': str(place)})

    def test_weights(self):
        # A whole one has two paths and two texts of a sign, a change one of each.
        self.gives([self.chain.weight(place) for place in range(7)], [4, 4, 2, 2, 2, 2, 2])
        self.gives([self.chain.to_read(place) for place in range(7)], [4, 4, 6, 6, 6, 8, 10])
        self.gives(self.chain.to_keep(), 18)

    def test_rows_that_are_not_there(self):
        for chain in (self.chain, Chain()):
            for ask in (chain.give, chain.way, chain.weight, chain.to_read, chain.hangs):
                for place in (len(chain.rows), len(chain.rows) + 1, -1, -2, -7, -8):
                    self.refuses(NoSuch, lambda: ask(place), chain)


class TestWeights(Checks):
    def test_paths_and_texts(self):
        chain = Chain()
        chain.keep({'a/bc': 'text', 'd': ''})
        self.gives(chain.weight(0), 4 + 4 + 1)
        chain.keep({'a/bc': 'longer text', 'd': ''}, 0)
        self.gives(chain.weight(1), 4 + 11)
        self.gives(chain.to_read(1), 9 + 15)
        chain.keep({}, 1)
        # What is left out takes the signs of its path alone.
        self.gives(chain.weight(2), 4 + 1)
        self.gives(chain.to_read(2), 9 + 15 + 5)
        chain.keep({}, 2)
        self.gives(chain.weight(3), 0)
        chain.keep({})
        self.gives(chain.weight(4), 0)
        self.gives(chain.to_read(4), 0)
        self.gives(chain.to_keep(), 9 + 15 + 5)

    def test_all_pairs_of_folders(self):
        folders = small_folders()
        for one in folders:
            chain = Chain()
            chain.keep(one)
            for place, other in enumerate(folders, start=1):
                self.assertEqual(chain.keep(other, 0), place)
                self.gives(chain.give(place), dict(sorted(other.items())))

    def test_a_long_chain(self):
        chain = Chain()
        for place in range(60):
            chain.keep({f'p{number}': str(number) for number in range(place % 7)}, place - 1 if place > 0 else None)
        for place in range(60):
            self.gives(chain.give(place), {f'p{number}': str(number) for number in range(place % 7)})
        self.gives(chain.way(59), tuple(range(60)))
        self.gives(chain.hangs(0), tuple(range(60)))


class TestLevels(Checks):
    def test_levels_that_rise_fall_and_stay(self):
        self.gives(levels((0, 1, 2, 3)), (None, 0, 1, 2))
        self.gives(levels((0, 3, 2, 1, 0)), (None, 0, 0, 0, None))
        self.gives(levels((0, 1, 1, 1)), (None, 0, 0, 0))
        self.gives(levels((0, 0, 0)), (None, None, None))
        self.gives(levels([0, 2, 1, 2, 3, 2, 0, 5, 1, 1]), (None, 0, 0, 2, 3, 2, None, 6, 6, 6))
        self.gives(levels((0, 9)), (None, 0))
        self.gives(levels((0,)), (None,))
        self.gives(levels(()), ())

    def test_levels_that_can_not_be(self):
        for days in ((1,), (1, 0), [2, 0, 1], (-1,), (0, -1), (0, 1, -1), (0, 1, 2, -5, 0), (-1, 0)):
            self.refuses(BadRule, lambda: levels(days), days)
            self.refuses(BadRule, lambda: kept_by([{}] * len(days), days), days)

    def test_all_short_rows(self):
        for days in product(range(3), repeat=5):
            if days[0] == 0:
                for place, since in enumerate(levels(days)):
                    lower = [at for at in range(place) if days[at] < days[place]]
                    self.assertEqual(since, max(lower, default=None))

    def test_kept_by(self):
        days = (0, 2, 1, 2, 0, 1)
        chain = kept_by(FOLDERS, days)
        self.assertIs(type(chain), Chain)
        self.gives([row[0] for row in chain.rows], ['whole', 'since', 'since', 'since', 'whole', 'since'])
        self.gives([row[1] for row in chain.rows if row[0] == 'since'], [0, 0, 2, 4])
        for place, table in enumerate(FOLDERS):
            self.gives(chain.give(place), dict(sorted(table.items())))
        self.gives(kept_by((), ()).rows, [])
        self.gives(kept_by([{'a': 'x'}], [0]).rows, [('whole', {'a': 'x'})])

    def test_lots_of_unlike_length(self):
        for folders, days in (((), (0,)), ([{}], ()), ([{}], (0, 1)), ([{}, {}], (0,)), ([{}, {}], [0, 1, 1])):
            self.refuses(BadRule, lambda: kept_by(folders, days), folders, days)

    def test_folders_that_can_not_be(self):
        for table in BAD_FOLDERS:
            for folders in ((table, {}), ({}, table), ({'k': 'x'}, table)):
                self.refuses(BadPath, lambda: kept_by(folders, (0, 1)), folders)
                self.refuses(BadPath, lambda: best_wholes(folders, 1000), folders)


class TestMarks(Checks):
    def test_all_marks(self):
        self.gives(all_marks(0), [()])
        self.gives(all_marks(1), [(True,)])
        self.gives(all_marks(2), [(True, False), (True, True)])
        self.gives(all_marks(3), [(True, False, False), (True, False, True), (True, True, False), (True, True, True)])
        for count in (4, 6):
            rows = all_marks(count)
            self.gives(rows, sorted(rows))
            self.gives(len(set(rows)), 2 ** (count - 1))
            self.assertTrue(all(len(row) == count and row[0] is True for row in rows))


class TestBestWholes(Checks):
    def best_by_trying(self, folders, most):
        """Return the best of all marks by what chains of them take, None where none can be."""
        best = None
        for marks in all_marks(len(folders)):
            chain = Chain()
            for place, table in enumerate(folders):
                chain.keep(table, None if marks[place] else place - 1)
            if all(chain.to_read(place) <= most for place in range(len(folders))):
                if best is None or chain.to_keep() < best[0]:
                    best = (chain.to_keep(), marks)
        return best

    def held(self, folders, most):
        was = state(folders)
        wanted = self.best_by_trying(folders, most)
        if wanted is None:
            self.refuses(BadSize, lambda: best_wholes(folders, most), folders)
        else:
            self.gives(best_wholes(folders, most), wanted)
        self.assertEqual(state(folders), was)

    def test_of_no_folders(self):
        for most in (0, 5):
            self.gives(best_wholes((), most), (0, ()))
            self.gives(best_wholes([], most), (0, ()))

    def test_of_one(self):
        self.gives(best_wholes([{'a': 'xyz'}], 4), (4, (True,)))
        self.gives(best_wholes([{'a': 'xyz'}], 400), (4, (True,)))
        self.gives(best_wholes([{}], 0), (0, (True,)))

    def test_where_none_can_be(self):
        self.refuses(BadSize, lambda: best_wholes([{'a': 'xyz'}], 3))
        self.refuses(BadSize, lambda: best_wholes(FOLDERS, 10))
        self.refuses(BadSize, lambda: best_wholes([{}, {'a': ''}], 0))
        self.refuses(BadSize, lambda: best_wholes([{'a': 'x'}, {'a': 'x', 'b': 'a great text'}, {}], 5))
        self.refuses(BadSize, lambda: best_wholes([{}], -1))

    def test_a_bound_of_what_is_read(self):
        table = {'a': 'xxxx'}
        folders = [{**table, 'b': text} for text in ('1', '2', '3', '4')]
        self.gives(best_wholes(folders, 13), (13, (True, False, False, False)))
        self.gives(best_wholes(folders, 12), (18, (True, False, False, True)))
        self.gives(best_wholes(folders, 8), (28, (True, True, True, True)))
        self.gives(best_wholes(folders, 7), (28, (True, True, True, True)))
        self.refuses(BadSize, lambda: best_wholes(folders, 6))

    def test_of_like_costs_the_first_in_order(self):
        # Each of the folders takes as much whole as since the one ahead.
        folders = [{'a': '1'}, {'a': '2'}, {'a': '3'}]
        self.gives(best_wholes(folders, 100), (6, (True, False, False)))
        self.gives(best_wholes(folders, 4), (6, (True, False, True)))
        self.gives(best_wholes(folders, 3), (6, (True, True, True)))
        self.gives(best_wholes([{}, {}, {}], 0), (0, (True, False, False)))

    def test_held_against_all_marks(self):
        for most in range(0, 90, 3):
            self.held(FOLDERS, most)
            self.held(list(FOLDERS[::-1]), most)
        for texts in product(('', 'x', 'yyyy'), repeat=4):
            folders = [{'k': 'zz', 'a': text} for text in texts]
            for most in range(3, 22):
                self.held(folders, most)
        some = [table for table in small_folders() if len(table) == 2]
        for start in range(0, len(some), 3):
            for most in (3, 6, 9, 14, 30):
                self.held(some[start:start + 7], most)


if __name__ == '__main__':
    unittest.main()
