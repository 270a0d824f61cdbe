"""Rules: which kept times stay: the last ones, and the last of so many days, weeks and months that have any."""

from keepwright.errors import BadPaper, BadRule

DAY = 24
WEEK = 7 * DAY
MONTH = 4 * WEEK


class Rule:
    """How many last ones stay, and of how many days, weeks and months the last one of each, by hours from nought on."""

    def __init__(self, last, days, weeks, months):
        if min(last, days, weeks, months) < 0:
            raise BadRule(f"a count below nought: {(last, days, weeks, months)}")
        self.newest = last
        self.days = days
        self.weeks = weeks
        self.months = months

    def parts(self):
        """Return the (length, count) of each kind of span that is kept."""
        return ((DAY, self.days), (WEEK, self.weeks), (MONTH, self.months))

    def stays(self, times):
        """Return the times that stay, in order: the last ones, and the last of each of the last spans that have any."""
        stays = last_of(sorted(set(times)), self.newest)
        for length, count in self.parts():
            stays = stays + span_ends(times, length, count)
        return tuple(sorted(set(stays)))

    def goes(self, times):
        """Return the times that don't stay, in order."""
        return tuple(sorted(set(times) - set(self.stays(times))))

    def why(self, times, time):
        """Return the words for why a time stays: "last", "day", "week", "month", none for one that goes; BadRule."""
        if time not in times:
            raise BadRule(f"no such time: {time}")
        words = ['last'] if time in last_of(sorted(set(times)), self.newest) else []
        for word, (length, count) in zip(('day', 'week', 'month'), self.parts()):
            if time in span_ends(times, length, count):
                words.append(word)
        return tuple(words)

    def shown(self):
        """Return (last, days, weeks, months)."""
        return (self.newest, self.days, self.weeks, self.months)


def last_of(rows, count):
    """Return the last so many of a list, all where there are fewer."""
    return rows[max(0, len(rows) - count):]


def span_ends(times, length, count):
    """Return the last time of each of the last so many spans of a length that have any times, in order."""
    ends = {}
    for time in sorted(set(times)):
        ends[time // length] = time
    return last_of(list(ends.values()), count)


def after_each(rule, times):
    """Return the times that are left where a rule is kept behind each new time, in order."""
    left = ()
    for time in sorted(set(times)):
        left = rule.stays(left + (time,))
    return left


def both(one, other):
    """Return the rule that keeps what either keeps: the greater of each count."""
    last, days, weeks, months = [max(pair) for pair in zip(one.shown(), other.shown())]
    return Rule(last, days, weeks, months)


def check_stays(rule, times, stays):
    """Return True where just those times stay that some reason keeps; BadPaper."""
    for time in times:
        if (time in stays) != (rule.why(times, time) != ()):
            raise BadPaper(f"another time stays: {time}")
    if any(time not in times for time in stays):
        raise BadPaper("a time that isn't there stays")
    return True


def most_kept(rule):
    """Return a bound of how many times may stay: the counts added up."""
    return sum(rule.shown())


def widest_gap(times):
    """Return the longest time between two that follow each other, nought for fewer than two."""
    row = sorted(times)
    return max([later - time for time, later in zip(row, row[1:])], default=0)


def tower(count, turns):
    """Return the tapes, from nought on, that turns are written on, each next, but the last, half as often; BadRule."""
    if count < 1 or turns < 0:
        raise BadRule(f"{count} tapes for {turns} turns")
    return tuple(tape_of(turn, count) for turn in range(1, turns + 1))


def tape_of(turn, count):
    """Return the tape of a turn: as often as two goes into it, the last of so many at most."""
    tape = 0
    while tape < count - 1 and turn % 2 == 0:
        turn = turn // 2
        tape += 1
    return tape


def on_tapes(count, turns):
    """Return a table of tapes to the turn, from one on, that each holds; BadRule."""
    found = {}
    for turn, tape in enumerate(tower(count, turns), start=1):
        found[tape] = turn
    return found
