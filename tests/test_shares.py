"""Point 11, shares, and points 1 and 18 as far as they speak of keepwright.shares."""

import unittest
from itertools import combinations

from checks import Checks
from keepwright.errors import BadPiece, BadSize, Lost
from keepwright.shares import (LETTERS, PRIME, agree, by_sums, check_counts, gathered, given_back, number_rows,
                               shares_of, spread, turned, worth_at, wrong_ones)

TEXT = 'may/plan.txt=dig_2-3 beds'


def lots_of(text, few, many):
    """Return a table of places to a text's lots of shares."""
    return dict(enumerate(spread(text, few, many)))


def some(table, places):
    """Return the part of a table at some places."""
    return {place: table[place] for place in places}


def spoilt(lots, places, by=1):
    """Return lots of which some have another first number."""
    found = dict(lots)
    for place in places:
        found[place] = ((lots[place][0] + by) % PRIME,) + lots[place][1:]
    return found


class TestTurned(Checks):
    def test_each_number(self):
        for number in range(1, PRIME):
            other = turned(number)
            self.assertIn(other, range(1, PRIME))
            self.assertEqual(number * other % PRIME, 1)

    def test_beyond_the_prime_and_below_nought(self):
        self.gives(turned(PRIME + 1), 1)
        self.gives(turned(2 + 5 * PRIME), 129)
        self.gives(turned(-1), 256)
        self.gives(turned(-2), 128)

    def test_nought(self):
        for number in (0, PRIME, -PRIME, 4 * PRIME):
            self.refuses(BadSize, lambda: turned(number))


class TestWorthAt(Checks):
    def test_on_a_line(self):
        for points in (((0, 3), (1, 5)), [(1, 5), (0, 3)], [[4, 11], [2, 7]]):
            for x in (0, 1, 2, 100, 126, 127, 128, 256):
                self.gives(worth_at(points, x), (3 + 2 * x) % PRIME)
        self.gives(worth_at(((0, 0), (2, 1)), 1), 129)

    def test_on_a_curve_through_three_points(self):
        points = ((0, 1), (1, 2), (3, 10))
        for x in range(PRIME):
            self.gives(worth_at(points, x), (x * x + 1) % PRIME)

    def test_one_point_and_none(self):
        self.gives(worth_at(((5, 9),), 77), 9)
        self.gives(worth_at((), 3), 0)

    def test_what_is_left_by_the_prime(self):
        self.gives(worth_at(((0, 300),), 0), 43)
        self.gives(worth_at(((0, -1), (1, 0)), 0), 256)
        self.gives(worth_at(((0, 3), (1, 5)), PRIME + 2), 7)
        self.gives(worth_at(((0, 3), (1, 5)), -1), 1)

    def test_two_points_at_one_place(self):
        for points in (((0, 1), (0, 2)), ((3, 1), (3, 1)), ((0, 1), (PRIME, 2)), ((1, 1), (2, 2), (1, 3))):
            for x in (0, 1, 5):
                self.refuses(BadSize, lambda: worth_at(points, x), points)


class TestShares(Checks):
    def test_check_counts(self):
        for few, many in ((1, 1), (1, 256), (3, 3), (3, 4), (256, 256)):
            self.gives(check_counts(few, many), (few, many))
        for few, many in ((0, 0), (0, 5), (-1, 5), (4, 3), (1, 257), (257, 257), (1, 0)):
            self.refuses(BadSize, lambda: check_counts(few, many))

    def test_the_row_itself_first(self):
        self.gives(shares_of((7,), 1, 4), (7, 7, 7, 7))
        self.gives(shares_of([3, 5], 2, 5), (3, 5, 7, 9, 11))
        self.gives(shares_of((5, 3), 2, 5), (5, 3, 1, 256, 254))
        self.gives(shares_of((1, 2, 5), 3, 6), (1, 2, 5, 10, 17, 26))
        self.gives(shares_of((0, 256), 2, 2), (0, 256))

    def test_rows_that_cannot_be(self):
        for row, few, many in (((), 1, 2), ((1,), 2, 3), ((1, 2, 3), 2, 3), ((257,), 1, 2), ((-1,), 1, 2),
                               ((0, 257), 2, 3), ((0, -1), 2, 3), ((1, 2), 2, 1), ((), 0, 2), ((1,), 1, 257)):
            self.refuses(BadSize, lambda: shares_of(row, few, many), row)

    def test_given_back_from_each_choice(self):
        for row in ((200,), (0, 0), (3, 256), (1, 2, 5), (0, 255, 17, 9)):
            few = len(row)
            shares = dict(enumerate(shares_of(row, few, 7)))
            for count in range(8):
                for places in combinations(range(7), count):
                    chosen = some(shares, reversed(places))
                    if count < few:
                        self.refuses(Lost, lambda: given_back(chosen, few), chosen)
                    else:
                        self.gives(given_back(chosen, few), row)

    def test_given_back_from_ones_that_do_not_agree(self):
        shares = dict(enumerate(shares_of((3, 5), 2, 5)))
        for place in range(5):
            self.refuses(BadPiece, lambda: given_back({**shares, place: shares[place] + 1}, 2), shares)
        self.refuses(BadPiece, lambda: given_back({0: 1, 1: 2}, 1))
        # What is alike by the prime alone isn't alike.
        self.refuses(BadPiece, lambda: given_back({0: 3, 1: 5, 2: 7 + PRIME}, 2))
        self.refuses(BadPiece, lambda: given_back({2: 7 + PRIME, 1: 5, 0: 3}, 2))

    def test_given_back_from_few_that_cannot_be(self):
        for few in (0, -1):
            self.refuses(BadSize, lambda: given_back({0: 1, 1: 2}, few))
            self.refuses(BadSize, lambda: given_back({}, few))
        self.refuses(BadSize, lambda: given_back({0: 1, PRIME: 2}, 2))
        self.refuses(Lost, lambda: given_back({}, 1))


class TestTexts(Checks):
    def test_number_rows(self):
        self.gives(number_rows('', 3), ())
        self.gives(number_rows('abc', 3), ((1, 2, 3),))
        self.gives(number_rows('abcd', 3), ((1, 2, 3), (4, 0, 0)))
        self.gives(number_rows('abcde', 3), ((1, 2, 3), (4, 5, 0)))
        self.gives(number_rows('=a', 1), ((42,), (1,)))
        self.gives(number_rows('z09 ._-/=', 9), ((26, 27, 36, 37, 38, 39, 40, 41, 42),))
        self.gives(number_rows(LETTERS, len(LETTERS)), (tuple(range(1, len(LETTERS) + 1)),))

    def test_number_rows_of_what_cannot_be(self):
        for text, few in (('A', 1), ('a\n', 2), ('a,b', 2), ('\u00e4', 1), ('', 0), ('a', 0), ('a', -1)):
            self.refuses(BadSize, lambda: number_rows(text, few))

    def test_spread_one_share_of_each_row(self):
        self.gives(spread('abcd', 2, 4), ((1, 3), (2, 4), (3, 5), (4, 6)))
        self.gives(spread('abc', 2, 3), ((1, 3), (2, 0), (3, 254)))
        self.gives(spread('', 2, 3), ((), (), ()))
        self.gives(spread('ab', 1, 2), ((1, 2), (1, 2)))

    def test_spread_of_what_cannot_be(self):
        for text, few, many in (('A', 1, 2), ('', 0, 2), ('', 3, 2), ('', 1, 257), ('a', 0, 0), ('a', 2, 257)):
            self.refuses(BadSize, lambda: spread(text, few, many))

    def test_texts_of_each_length_from_each_choice_of_lots(self):
        for few, many in ((1, 3), (2, 4), (3, 5)):
            for length in range(3 * few + 2):
                lots = lots_of(TEXT[:length], few, many)
                for count in range(many + 1):
                    for places in combinations(range(many), count):
                        chosen = some(lots, reversed(places))
                        if count < few:
                            self.refuses(Lost, lambda: gathered(chosen, few), chosen)
                        else:
                            self.gives(gathered(chosen, few), TEXT[:length])

    def test_the_most_lots(self):
        lots = lots_of('ab', 2, 256)
        self.gives(gathered(some(lots, (255, 128)), 2), 'ab')
        self.gives(gathered(some(lots, (254, 255)), 2), 'ab')

    def test_all_letters(self):
        self.gives(gathered(some(lots_of(LETTERS, 4, 9), (8, 1, 6, 3)), 4), LETTERS)

    def test_lots_are_rows_of_either_kind(self):
        self.gives(gathered({2: [3, 5], 1: [2, 4]}, 2), 'abcd')

    def test_unlike_lengths(self):
        self.refuses(BadSize, lambda: gathered({0: (1, 3), 1: (2,), 2: (3, 5)}, 2))
        self.refuses(BadSize, lambda: gathered({0: (), 1: (2,)}, 1))
        self.refuses(BadSize, lambda: gathered({0: (1,), 1: (2,), 2: (3, 4)}, 2))

    def test_too_few_ahead_of_unlike_lengths(self):
        self.refuses(Lost, lambda: gathered({0: (1, 3), 1: (2,)}, 3))
        self.refuses(Lost, lambda: gathered({}, 1))
        self.refuses(BadSize, lambda: gathered({}, 0))
        self.refuses(BadSize, lambda: gathered({0: (1,)}, -1))

    def test_lots_that_do_not_agree(self):
        lots = lots_of(TEXT, 3, 5)
        for place in range(5):
            self.refuses(BadPiece, lambda: gathered(spoilt(lots, [place]), 3), lots)

    def test_numbers_that_tell_no_sign(self):
        for row in ((43,), (256,)):
            self.refuses(BadPiece, lambda: gathered({0: row}, 1))
        # Noughts stand behind a text alone, not ahead of a sign.
        self.refuses(BadPiece, lambda: gathered({0: (0, 1)}, 1))
        self.refuses(BadPiece, lambda: gathered({0: (0,), 1: (1,)}, 2))
        self.refuses(BadPiece, lambda: gathered({0: (1, 3), 1: (0, 4)}, 2))


class TestWrongOnes(Checks):
    def test_none_wrong(self):
        self.gives(wrong_ones(lots_of(TEXT, 3, 6), 3), ())
        self.gives(wrong_ones(lots_of(TEXT, 3, 4), 3), ())
        self.gives(wrong_ones(lots_of('', 2, 3), 2), ())
        self.gives(wrong_ones({0: (7,), 1: (7,)}, 1), ())

    def test_one_wrong(self):
        lots = lots_of(TEXT, 3, 6)
        for place in range(6):
            self.gives(wrong_ones(spoilt(lots, [place]), 3), (place,))
            self.gives(wrong_ones(some(spoilt(lots, [place]), (5, 4, 3, 2, 1, 0)), 3), (place,))

    def test_two_wrong(self):
        lots = lots_of(TEXT, 3, 7)
        for places in combinations(range(7), 2):
            self.gives(wrong_ones(spoilt(lots, places, 9), 3), places)

    def test_the_first_such(self):
        # Of four lots that agree two and two, either two may be the wrong ones.
        self.gives(wrong_ones({0: (7,), 1: (7,), 2: (8,), 3: (8,)}, 1), (0, 1))
        self.gives(wrong_ones({3: (7,), 2: (8,), 1: (7,), 0: (9,)}, 1), (0, 2))

    def test_so_many_wrong_that_none_can_be_told(self):
        lots = lots_of(TEXT, 3, 6)
        # Each wrong by another number, as four lots that are wrong alike may agree among themselves.
        wrong = spoilt(spoilt(spoilt(lots, [0], 9), [2], 100), [4], 50)
        self.refuses(Lost, lambda: wrong_ones(wrong, 3), wrong)
        # Few lots agree always: one more must.
        self.refuses(Lost, lambda: wrong_ones(spoilt(lots_of(TEXT, 3, 4), [2]), 3))
        self.refuses(Lost, lambda: wrong_ones(lots_of(TEXT, 3, 3), 3))
        self.refuses(Lost, lambda: wrong_ones({}, 1))

    def test_lots_that_agree_on_no_text(self):
        # Lots that agree on numbers that tell no sign give no text back.
        self.refuses(Lost, lambda: wrong_ones({0: (0, 1), 1: (0, 1), 2: (0, 1)}, 1))
        self.gives(wrong_ones({0: (0, 1), 1: (2, 1), 2: (2, 1)}, 1), (0,))

    def test_unlike_lengths(self):
        self.refuses(BadSize, lambda: wrong_ones({0: (1, 3), 1: (2,), 2: (3, 5)}, 1))
        self.refuses(BadSize, lambda: wrong_ones({**lots_of(TEXT, 2, 5), 3: ()}, 2))
        # As where lots are gathered, too few are told ahead of unlike lengths.
        self.refuses(Lost, lambda: wrong_ones({0: (1, 3), 1: (2,)}, 2))
        self.refuses(Lost, lambda: wrong_ones({0: (1, 3), 1: (2,)}, 3))

    def test_few_that_cannot_be(self):
        for few in (0, -1):
            self.refuses(BadSize, lambda: wrong_ones({0: (1,), 1: (1,)}, few))
            self.assertIs(agree({0: (1,), 1: (1,)}, few), False)

    def test_agree(self):
        lots = lots_of(TEXT, 3, 6)
        self.assertIs(agree(lots, 3), True)
        self.assertIs(agree(some(lots, (1, 3, 5)), 3), True)
        self.assertIs(agree(lots_of('', 2, 2), 2), True)
        for wrong in (spoilt(lots, [5]), some(lots, (1, 3)), {**lots, 2: ()}, {}):
            self.assertIs(agree(wrong, 3), False)
        self.assertIs(agree({0: (50,)}, 1), False)


class TestBySums(Checks):
    def test_by_sums(self):
        self.gives(by_sums([(1, 0, 256)]), (256, 0, 1))
        self.gives(by_sums(((1, 2), (3, 4), [250, 251])), (3, 0))
        self.gives(by_sums(((), ())), ())
        self.gives(by_sums(((200,), (200,))), (114,))

    def test_any_lot_by_the_others(self):
        lots = spread(TEXT, 2, 4)
        lots = lots + (by_sums(lots),)
        for place in range(5):
            self.gives(by_sums(lots[:place] + lots[place + 1:]), lots[place])

    def test_none_and_unlike_ones(self):
        for lots in ((), [], ((1,), ()), ((1, 2), (3, 4), (5,))):
            self.refuses(BadSize, lambda: by_sums(lots), lots)


if __name__ == '__main__':
    unittest.main()
