"""Shares: a row of numbers kept as more rows, any so many of which give it back, by lines through points."""

from itertools import combinations

from keepwright.errors import KeepFault, BadPiece, BadSize, Lost

PRIME = 257
LETTERS = 'abcdefghijklmnopqrstuvwxyz0123456789 ._-/='


def turned(number):
    """Return the number by which another comes to one, what is left by the prime; BadSize for nought."""
    if number % PRIME == 0:
        raise BadSize(f"nought by the prime: {number}")
    # What isn't nought is one again when taken as often as the prime less one tells: once less turns it.
    worth = 1
    power = number % PRIME
    left = PRIME - 2
    while left > 0:
        if left % 2 == 1:
            worth = worth * power % PRIME
        power = power * power % PRIME
        left = left // 2
    return worth


def worth_at(points, x):
    """Return what the lowest curve through (x, y) points is at a place, by the prime; BadSize for points at one."""
    total = 0
    for count, (own, y) in enumerate(points):
        top = y
        low = 1
        for place, (other, _) in enumerate(points):
            if place != count:
                top = top * (x - other) % PRIME
                low = low * (own - other) % PRIME
        total += top * turned(low)
    return total % PRIME


def check_counts(few, many):
    """Return (few, many): one or more, no more than many, which are fewer than the prime; BadSize."""
    if not 0 < few <= many < PRIME:
        raise BadSize(f"no counts of shares: {few} of {many}")
    return (few, many)


def shares_of(row, few, many):
    """Return many shares of a row of few numbers, the row itself first; BadSize for numbers that can't be."""
    check_counts(few, many)
    if len(row) != few or any(not 0 <= number < PRIME for number in row):
        raise BadSize(f"no row of {few} numbers below {PRIME}")
    points = list(enumerate(row))
    return tuple(row) + tuple([worth_at(points, place) for place in range(few, many)])


def given_back(shares, few):
    """Return the row of a table of places to shares; Lost for fewer than few, BadPiece for unlike ones, BadSize."""
    if few < 1:
        raise BadSize(f"no count of shares: {few}")
    points = [(place, shares[place]) for place in sorted(shares)]
    if len(points) < few:
        raise Lost(f"{len(points)} shares of {few}")
    if any(worth_at(points[:few], x) != y for x, y in points[few:]):
        raise BadPiece("shares that don't agree")
    return tuple([worth_at(points[:few], place) for place in range(few)])


def number_rows(text, few):
    """Return a text's signs' places in LETTERS, from one on, in rows of few, noughts behind; BadSize for another."""
    if few < 1 or any(sign not in LETTERS for sign in text):
        raise BadSize(f"no text of LETTERS, or no count of numbers: {few}")
    numbers = [LETTERS.index(sign) + 1 for sign in text]
    numbers = numbers + [0] * (-len(numbers) % few)
    return tuple([tuple(numbers[place:place + few]) for place in range(0, len(numbers), few)])


def spread(text, few, many):
    """Return many lots of shares of a text, one of each row; BadSize."""
    check_counts(few, many)
    rows = [shares_of(row, few, many) for row in number_rows(text, few)]
    return tuple([tuple([row[place] for row in rows]) for place in range(many)])


def gathered(lots, few):
    """Return the text of a table of places to lots of shares; Lost, BadPiece, BadSize for lots of unlike lengths."""
    if few < 1:
        raise BadSize(f"no count of lots: {few}")
    if len(lots) < few:
        raise Lost(f"{len(lots)} lots of {few}")
    numbers = []
    for at in range(length_of(list(lots.values()))):
        numbers.extend(given_back({place: lots[place][at] for place in lots}, few))
    while numbers != [] and numbers[-1] == 0:
        numbers.pop()
    if any(not 0 < number <= len(LETTERS) for number in numbers):
        raise BadPiece("a number that tells no sign")
    return ''.join([LETTERS[number - 1] for number in numbers])


def length_of(lots):
    """Return the length of one or more lots that are all of one length; BadSize."""
    if any(len(lot) != len(lots[0]) for lot in lots):
        raise BadSize("lots of unlike lengths")
    return len(lots[0])


def wrong_ones(lots, few):
    """Return the places of the fewest lots that must be left out so that all others agree, the first such.

    The others are few and one more at least; Lost for none, BadSize for unlike lengths.
    """
    if few < 1:
        raise BadSize(f"no count of lots: {few}")
    places = sorted(lots)
    if len(places) <= few:
        raise Lost(f"{len(places)} lots, where one more than {few} must agree")
    length_of(list(lots.values()))
    for count in range(len(places) - few):
        for gone in combinations(places, count):
            if agree({place: lots[place] for place in places if place not in gone}, few):
                return gone
    raise Lost("too many lots are wrong")


def agree(lots, few):
    """Tell whether lots give one text back."""
    try:
        gathered(lots, few)
    except KeepFault:
        return False
    return True


def by_sums(lots):
    """Return the lot that, with lots of one length, makes each place's sum nought by the prime; BadSize."""
    if len(lots) == 0:
        raise BadSize("no lots")
    length_of(lots)
    return tuple([-sum(numbers) % PRIME for numbers in zip(*lots)])
