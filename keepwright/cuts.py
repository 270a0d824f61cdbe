"""Cuts: texts cut in pieces, by even lengths or where the signs themselves tell, so that a change moves few cuts."""

from keepwright.errors import BadSize


def check_bounds(least, most, window):
    """Return (least, most, window): a window of one or more, no longer than the least, the most no shorter; BadSize."""
    if not 0 < window <= least <= most:
        raise BadSize(f"no bounds: least {least}, most {most}, window {window}")
    return (least, most, window)


def even(text, size):
    """Return a text's pieces of one length, the last one what is left; BadSize."""
    if size < 1:
        raise BadSize(f"no size of a piece: {size}")
    return tuple(text[place:place + size] for place in range(0, len(text), size))


def sums(text, window):
    """Return, for each place from a window on, the sum of the window's signs ahead of it; BadSize."""
    if window < 1:
        raise BadSize(f"no window: {window}")
    if len(text) < window:
        return ()
    total = sum(ord(sign) for sign in text[:window])
    found = [total]
    for place in range(window, len(text)):
        total += ord(text[place]) - ord(text[place - window])
        found.append(total)
    return tuple(found)


def told(text, least, most, window, by):
    """Return a text's pieces: each ends from the least on where a number goes into the sum, or at the most; BadSize."""
    check_bounds(least, most, window)
    if by < 1:
        raise BadSize(f"no number to go into a sum: {by}")
    totals = sums(text, window)
    pieces = []
    start = 0
    for place in range(least, len(text)):
        size = place - start
        if size == most or (size >= least and totals[place - window] % by == 0):
            pieces.append(text[start:place])
            start = place
    if start < len(text):
        pieces.append(text[start:])
    return tuple(pieces)


def places_of(pieces):
    """Return the places at which pieces end."""
    places = []
    place = 0
    for piece in pieces:
        place += len(piece)
        places.append(place)
    return tuple(places)


def shared_pieces(one, other):
    """Return how many of other's pieces are among one's, each as often as it stands."""
    known = set(one)
    return len([piece for piece in other if piece in known])


def fresh_signs(one, other):
    """Return how many signs of other's pieces aren't among one's, alike pieces once."""
    known = set(one)
    fresh = {piece: len(piece) for piece in other if piece not in known}
    return sum(fresh.values())


def check_pieces(text, pieces, least, most):
    """Return how many pieces there are where they are the text and none but the last is out of bounds; BadSize."""
    if ''.join(pieces) != text or any(piece == '' for piece in pieces):
        raise BadSize("not the text's pieces")
    if any(not least <= len(piece) <= most for piece in pieces[:-1]) or any(len(piece) > most for piece in pieces):
        raise BadSize(f"a piece out of bounds: least {least}, most {most}")
    return len(pieces)


def settled(one, other):
    """Return how many pieces at the ends of two rows are alike, up to all of the shorter."""
    count = 0
    while count < min(len(one), len(other)) and one[-1 - count] == other[-1 - count]:
        count += 1
    return count
