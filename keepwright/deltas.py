"""Deltas: a text told by parts of another that is far away, found by their figures, and signs of its own."""

from keepwright.cuts import even
from keepwright.errors import BadPaper
from keepwright.stores import figure


def marks(text, size):
    """Return the (figure, place) of a text's whole pieces of a size, the first of each figure alone; BadSize."""
    return tuple(first_places(text, size).items())


def first_places(text, size):
    """Return a table of the figures of a text's whole pieces of a size to the first place of each; BadSize."""
    found = {}
    for count, piece in enumerate(even(text, size)):
        if len(piece) == size:
            found.setdefault(figure(piece), count * size)
    return found


def delta(old, new, size):
    """Return the rows by which a text is made of another, alike pieces of a size copied, those that meet put together.

    The rows are ("copy", place, count) and ("put", signs); BadSize.
    """
    places = first_places(old, size)
    rows = []
    at = 0
    while at < len(new):
        piece = new[at:at + size]
        place = places.get(figure(piece))
        if place is not None and old[place:place + size] == piece:
            rows.append(('copy', place, size))
            at += size
        else:
            rows.append(('put', new[at]))
            at += 1
    return together(rows)


def made(old, rows):
    """Return the text that rows make of another; BadPaper for a copy past it."""
    parts = []
    for row in rows:
        if row[0] == 'put':
            parts.append(row[1])
        else:
            check_copy(row, len(old))
            parts.append(old[row[1]:row[1] + row[2]])
    return ''.join(parts)


def check_copy(row, length):
    """Refuse a row that is no copy from a text of a length; BadPaper."""
    if row[0] != 'copy' or not 0 <= row[1] <= row[1] + row[2] <= length:
        raise BadPaper(f"no copy: {row!r}")


def cost(rows):
    """Return how many signs rows take: each copy two, each put one and its signs."""
    return sum(2 if row[0] == 'copy' else 1 + len(row[1]) for row in rows)


def best_delta(old, new):
    """Return the rows of least cost by which a text is made of another, copies ahead of puts, longer copies first."""
    longest = longest_copies(old, new)
    heights = heights_for(old, new)
    rows = []
    at = 0
    while at < len(new):
        count = best_count(longest[at], heights, at)
        signs = new[at:at + count]
        rows.append(('copy', old.find(signs), count) if count <= longest[at] else ('put', signs))
        at += count
    return tuple(rows)


def longest_copies(old, new):
    """Return, for each place of a text, how many signs from there on stand in another behind each other at most."""
    found = []
    count = 0
    for place in range(len(new)):
        # What stands there without its first sign stands there, too.
        count = max(0, count - 1)
        while place + count < len(new) and new[place:place + count + 1] in old:
            count += 1
        found.append(count)
    return found


def least_cost(longest, count):
    """Return the least cost of so many signs told by one row, where copies have so many at most."""
    return 2 if count <= longest else 1 + count


def best_count(longest, heights, place):
    """Return how many signs the first row from a place on tells: the longest copy of least cost, else the least put."""
    counts = list(range(longest, 0, -1)) + list(range(longest + 1, len(heights) - place))
    good = [count for count in counts if heights[place] == least_cost(longest, count) + heights[place + count]]
    return good[0]


def check_best(old, new, heights, rows):
    """Return the cost of rows that make a text, shown least by a height for each place; BadPaper.

    The heights are nought at the end, and no copy or put lessens them by more than its cost.
    """
    if made(old, rows) != new or len(heights) != len(new) + 1 or heights[-1] != 0:
        raise BadPaper("not the text, or no heights for it")
    for place, longest in enumerate(longest_copies(old, new)):
        for count in range(1, len(heights) - place):
            if heights[place] > least_cost(longest, count) + heights[place + count]:
                raise BadPaper(f"too steep: {count} signs from {place} on")
    if heights[0] != cost(rows):
        raise BadPaper("the first height isn't the cost")
    return cost(rows)


def heights_for(old, new):
    """Return the least costs from each place of a text on."""
    longest = longest_copies(old, new)
    heights = [0] * (len(new) + 1)
    for place in reversed(range(len(new))):
        heights[place] = min([least_cost(longest[place], count) + heights[place + count]
                              for count in range(1, len(heights) - place)])
    return tuple(heights)


def behind_each_other(first, second):
    """Return the rows that make of the oldest text what a second lot makes of what a first makes; BadPaper."""
    # A row for each sign of the text between, so that any part of it can be taken.
    parts = []
    for row in first:
        if row[0] == 'put':
            parts.extend([('put', sign) for sign in row[1]])
        else:
            parts.extend([('copy', place, 1) for place in range(row[1], row[1] + row[2])])
    rows = []
    for row in second:
        if row[0] == 'put':
            rows.append(row)
        else:
            check_copy(row, len(parts))
            rows.extend(parts[row[1]:row[1] + row[2]])
    return together(rows)


def together(rows):
    """Return rows with those that meet put together, bare ones left out."""
    found = []
    for row in rows:
        if row[-1] in ('', 0):
            continue
        last = found[-1] if found != [] else ('', 0, 0)
        if row[0] == 'put' and last[0] == 'put':
            found[-1] = ('put', last[1] + row[1])
        elif row[0] == 'copy' and last[0] == 'copy' and last[1] + last[2] == row[1]:
            found[-1] = ('copy', last[1], last[2] + row[2])
        else:
            found.append(tuple(row))
    return tuple(found)
