"""Point 9, rules, and point 1 as far as it speaks of keepwright.rules."""

import unittest
from itertools import product

from checks import Checks, state
from keepwright.errors import BadPaper, BadRule
from keepwright.rules import (DAY, MONTH, WEEK, Rule, after_each, both, check_stays, most_kept, on_tapes, tower,
                              widest_gap)

# Two on the first day, two on the second, one each in the second week, the second month and the third.
TIMES = (0, 5, 24, 30, 168, 700, 1400)
RULES = tuple(Rule(*counts) for counts in product((0, 1, 3), repeat=4))
ROWS = (
    (),
    (0,),
    TIMES,
    tuple(range(0, 3000, 29)),
    (23, 24, 47, 48, 167, 168, 191, 335, 336, 671, 672, 1343, 1344, 2015, 2016),
    (9, 9, 3, 3, 500, 3, 200, 200),
    (1400, 700, 168, 30, 24, 5, 0),
)


def spans_by_trying(times, length, count):
    """Return the last time of each of the last so many spans that have any."""
    spans = sorted({time // length for time in times}, reverse=True)[:count]
    return {max(time for time in times if time // length == span) for span in spans}


def stays_by_trying(rule, times):
    """Return the times that stay as point 9 words it."""
    last, days, weeks, months = rule.shown()
    found = set(sorted(set(times), reverse=True)[:last])
    for length, count in ((24, days), (168, weeks), (672, months)):
        found |= spans_by_trying(times, length, count)
    return tuple(sorted(found))


class TestRule(Checks):
    def test_spans(self):
        self.gives((DAY, WEEK, MONTH), (24, 168, 672))

    def test_fields_and_parts(self):
        rule = Rule(1, 2, 3, 4)
        self.gives((rule.newest, rule.days, rule.weeks, rule.months), (1, 2, 3, 4))
        self.gives(rule.shown(), (1, 2, 3, 4))
        self.gives(rule.parts(), ((24, 2), (168, 3), (672, 4)))
        self.gives(Rule(0, 0, 0, 0).shown(), (0, 0, 0, 0))
        self.gives(Rule(0, 0, 0, 0).parts(), ((24, 0), (168, 0), (672, 0)))
        self.gives(Rule(last=5, days=6, weeks=7, months=8).shown(), (5, 6, 7, 8))

    def test_counts_below_nought(self):
        for counts in ((-1, 0, 0, 0), (0, -1, 0, 0), (0, 0, -1, 0), (0, 0, 0, -1), (5, 5, 5, -5), (-2, 1, 1, 1)):
            self.refuses(BadRule, lambda: Rule(*counts))

    def test_each_count_alone(self):
        self.gives(Rule(0, 0, 0, 0).stays(TIMES), ())
        self.gives(Rule(1, 0, 0, 0).stays(TIMES), (1400,))
        self.gives(Rule(3, 0, 0, 0).stays(TIMES), (168, 700, 1400))
        self.gives(Rule(9, 0, 0, 0).stays(TIMES), TIMES)
        self.gives(Rule(0, 1, 0, 0).stays(TIMES), (1400,))
        self.gives(Rule(0, 4, 0, 0).stays(TIMES), (30, 168, 700, 1400))
        self.gives(Rule(0, 5, 0, 0).stays(TIMES), (5, 30, 168, 700, 1400))
        self.gives(Rule(0, 50, 0, 0).stays(TIMES), (5, 30, 168, 700, 1400))
        self.gives(Rule(0, 0, 3, 0).stays(TIMES), (168, 700, 1400))
        self.gives(Rule(0, 0, 4, 0).stays(TIMES), (30, 168, 700, 1400))
        self.gives(Rule(0, 0, 0, 1).stays(TIMES), (1400,))
        self.gives(Rule(0, 0, 0, 2).stays(TIMES), (700, 1400))
        self.gives(Rule(0, 0, 0, 3).stays(TIMES), (168, 700, 1400))

    def test_spans_are_counted_from_nought(self):
        for length, rule in ((24, Rule(0, 9, 0, 0)), (168, Rule(0, 0, 9, 0)), (672, Rule(0, 0, 0, 9))):
            self.gives(rule.stays((0, length - 1, length, 2 * length - 1, 2 * length)),
                       (length - 1, 2 * length - 1, 2 * length))

    def test_spans_without_times_do_not_count(self):
        self.gives(Rule(0, 2, 0, 0).stays((3, 9000)), (3, 9000))
        self.gives(Rule(0, 0, 2, 0).stays((3, 9000)), (3, 9000))
        self.gives(Rule(0, 0, 0, 2).stays((3, 9000)), (3, 9000))

    def test_counts_together(self):
        self.gives(Rule(1, 2, 3, 4).stays(TIMES), (168, 700, 1400))
        self.gives(Rule(2, 1, 4, 0).stays((0, 5, 24, 30, 168, 170, 171)), (30, 170, 171))

    def test_times_told_twice_and_out_of_order(self):
        self.gives(Rule(2, 0, 0, 0).stays((9, 9, 3, 9)), (3, 9))
        self.gives(Rule(1, 0, 0, 0).stays([9, 3, 9]), (9,))
        self.gives(Rule(0, 2, 0, 0).stays([50, 3, 50, 20, 3]), (20, 50))
        self.gives(Rule(1, 0, 0, 0).goes([9, 3, 9, 3, 5]), (3, 5))
        self.gives(Rule(0, 0, 0, 0).goes([9, 3, 9]), (3, 9))

    def test_all_rules(self):
        for rule, times in product(RULES, ROWS):
            with self.subTest(rule=rule.shown(), times=times[:9]):
                was = state((rule, times))
                wanted = stays_by_trying(rule, times)
                self.gives(rule.stays(times), wanted)
                self.gives(rule.goes(times), tuple(sorted(set(times) - set(wanted))))
                self.assertLessEqual(len(wanted), most_kept(rule))
                self.gives(after_each(rule, times), wanted)
                self.gives(rule.stays(wanted), wanted)
                self.gives(check_stays(rule, times, wanted), True)
                self.assertEqual(state((rule, times)), was)


class TestWhy(Checks):
    def test_why(self):
        rule = Rule(1, 2, 3, 1)
        self.gives(rule.why(TIMES, 1400), ('last', 'day', 'week', 'month'))
        self.gives(rule.why(TIMES, 700), ('day', 'week'))
        self.gives(rule.why(TIMES, 168), ('week',))
        self.gives(rule.why(TIMES, 30), ())
        self.gives(Rule(2, 0, 0, 2).why(TIMES, 700), ('last', 'month'))
        self.gives(Rule(0, 2, 0, 2).why([5, 700, 5, 1400], 700), ('day', 'month'))
        self.gives(Rule(0, 0, 0, 0).why((5,), 5), ())
        self.gives(Rule(1, 0, 0, 0).why((5,), 5), ('last',))
        self.gives(Rule(1, 0, 0, 0).why([5, 9, 5, 9], 5), ())
        self.gives(Rule(2, 0, 0, 0).why([5, 9, 9, 9], 5), ('last',))

    def test_a_time_that_is_not_there(self):
        for times, time in (((), 0), (TIMES, 6), (TIMES, -1), ([5], 50)):
            self.refuses(BadRule, lambda: Rule(9, 9, 9, 9).why(times, time), times)

    def test_why_goes_with_stays(self):
        for rule, times in product(RULES, ROWS[:3] + ROWS[4:]):
            stays = rule.stays(times)
            last, days, weeks, months = rule.shown()
            for time in times:
                words = []
                for word, found in (('last', stays_by_trying(Rule(last, 0, 0, 0), times)),
                                    ('day', spans_by_trying(times, 24, days)),
                                    ('week', spans_by_trying(times, 168, weeks)),
                                    ('month', spans_by_trying(times, 672, months))):
                    if time in found:
                        words.append(word)
                self.gives(rule.why(times, time), tuple(words))
                self.assertEqual(time in stays, words != [])


class TestCheckStays(Checks):
    RULE = Rule(1, 2, 3, 1)

    def test_just_those(self):
        self.gives(check_stays(self.RULE, TIMES, (168, 700, 1400)), True)
        self.gives(check_stays(self.RULE, list(TIMES), [1400, 168, 700]), True)
        self.gives(check_stays(self.RULE, (), ()), True)
        self.gives(check_stays(Rule(0, 0, 0, 0), TIMES, ()), True)

    def test_one_more_or_fewer(self):
        for stays in ((30, 168, 700, 1400), (0, 168, 700, 1400), (700, 1400), (168, 700), (), TIMES):
            self.refuses(BadPaper, lambda: check_stays(self.RULE, TIMES, stays), stays)

    def test_one_that_is_not_among_the_times(self):
        for more in (1, 1401, -1):
            self.refuses(BadPaper, lambda: check_stays(self.RULE, TIMES, (168, 700, 1400, more)))
            self.refuses(BadPaper, lambda: check_stays(self.RULE, (), [more]))


class TestOthers(Checks):
    def test_after_each(self):
        self.gives(after_each(Rule(2, 0, 0, 0), ()), ())
        self.gives(after_each(Rule(2, 0, 0, 0), [7, 3, 5]), (5, 7))
        self.gives(after_each(Rule(1, 2, 0, 0), (1, 2, 30, 31, 60)), (31, 60))

    def test_both(self):
        self.gives(both(Rule(1, 5, 0, 2), Rule(3, 4, 0, 9)).shown(), (3, 5, 0, 9))
        self.gives(both(Rule(0, 0, 7, 0), Rule(0, 0, 0, 0)).shown(), (0, 0, 7, 0))
        self.assertIs(type(both(RULES[0], RULES[1])), Rule)
        for one, other in product(RULES[::5], RULES[::7]):
            was = state((one, other))
            rule = both(one, other)
            self.assertEqual(state((one, other)), was)
            for times in ROWS:
                wanted = tuple(sorted(set(one.stays(times)) | set(other.stays(times))))
                self.gives(rule.stays(times), wanted)

    def test_most_kept(self):
        self.gives(most_kept(Rule(1, 20, 300, 4000)), 4321)
        self.gives(most_kept(Rule(0, 0, 0, 0)), 0)

    def test_widest_gap(self):
        self.gives(widest_gap(()), 0)
        self.gives(widest_gap((7,)), 0)
        self.gives(widest_gap([7, 7]), 0)
        self.gives(widest_gap((3, 10)), 7)
        self.gives(widest_gap((10, 3)), 7)
        self.gives(widest_gap(TIMES), 700)
        self.gives(widest_gap([0, 9, 10, 4]), 5)


class TestTapes(Checks):
    def test_one_tape(self):
        self.gives(tower(1, 4), (0, 0, 0, 0))
        self.gives(on_tapes(1, 4), {0: 4})

    def test_as_often_as_two_goes_into_a_turn(self):
        self.gives(tower(9, 16), (0, 1, 0, 2, 0, 1, 0, 3, 0, 1, 0, 2, 0, 1, 0, 4))
        self.gives(on_tapes(9, 16), {0: 15, 1: 14, 2: 12, 3: 8, 4: 16})
        self.gives(on_tapes(9, 6), {0: 5, 1: 6, 2: 4})

    def test_more_turns_than_tapes_reach(self):
        self.gives(tower(2, 8), (0, 1, 0, 1, 0, 1, 0, 1))
        self.gives(on_tapes(2, 8), {0: 7, 1: 8})
        self.gives(tower(3, 16), (0, 1, 0, 2, 0, 1, 0, 2, 0, 1, 0, 2, 0, 1, 0, 2))
        self.gives(on_tapes(3, 16), {0: 15, 1: 14, 2: 16})
        self.gives(on_tapes(3, 17), {0: 17, 1: 14, 2: 16})

    def test_no_turns(self):
        for count in (1, 2, 9):
            self.gives(tower(count, 0), ())
            self.gives(on_tapes(count, 0), {})

    def test_counts_that_can_not_be(self):
        for count, turns in ((0, 0), (0, 5), (-1, 5), (1, -1), (5, -3), (0, -1)):
            self.refuses(BadRule, lambda: tower(count, turns))
            self.refuses(BadRule, lambda: on_tapes(count, turns))

    def test_each_next_but_the_last_half_as_often(self):
        for count in range(1, 6):
            row = tower(count, 64)
            many = [row.count(tape) for tape in range(count)]
            wanted = [64 >> (tape + 1) for tape in range(count - 1)]
            self.gives(many, wanted + [64 - sum(wanted)])


if __name__ == '__main__':
    unittest.main()
