"""Squeezes: texts told by what stood ahead in them, the fewest rows, runs, and words for often told signs."""

from keepwright.errors import BadPaper, BadSize, BadText


def check_window(window, most):
    """Return (window, most): how far back a copy may begin, and how long it may be, one or more each; BadSize."""
    if window < 1 or most < 1:
        raise BadSize(f"no window for copies: {window} back, {most} long")
    return (window, most)


def copies_at(text, place, window, most):
    """Return a table of counts to how far back copies of so many signs may begin at a place, the nearest ones."""
    found = {}
    longest = min(most, len(text) - place)
    for back in range(1, min(window, place) + 1):
        # What begins further back is taken only for the counts that nothing nearer has.
        count = len(found)
        if text[place - back:place - back + count] == text[place:place + count]:
            while count < longest and text[place - back + count] == text[place + count]:
                count += 1
                found[count] = back
    return found


def squeezed(text, window, most):
    """Return the fewest rows, (back, count) copies and single signs, that tell a text, longer copies first; BadSize."""
    # A copy without its first sign is a copy too, so that what stands later takes no more rows than what stands ahead:
    # the longest copy at each place leaves the fewest.
    return greedy(text, window, most)


def greedy(text, window, most):
    """Return rows that tell a text, the longest copy at each place, the nearest of alike ones; BadSize."""
    check_window(window, most)
    rows = []
    at = 0
    while at < len(text):
        copies = copies_at(text, at, window, most)
        count = max(copies, default=1)
        rows.append((copies[count], count) if copies != {} else text[at])
        at += count
    return tuple(rows)


def told_again(rows):
    """Return the text of rows; BadPaper for a copy from ahead of the beginning, or of none."""
    found = []
    for row in rows:
        if isinstance(row, str):
            found.extend(row)
            continue
        back, count = row
        if not 0 < back <= len(found) or count < 1:
            raise BadPaper(f"no copy: {count} signs from {back} back")
        # Sign by sign, as a copy may take signs that it has told itself.
        for _ in range(count):
            found.append(found[-back])
    return ''.join(found)


def runs_of(text):
    """Return the (sign, count) of a text's runs."""
    found = []
    for sign in text:
        if found != [] and found[-1][0] == sign:
            found[-1] = (sign, found[-1][1] + 1)
        else:
            found.append((sign, 1))
    return tuple(found)


def text_of_runs(rows):
    """Return the text of runs; BadText for a count below one."""
    if any(count < 1 for sign, count in rows):
        raise BadText("a run of none")
    return ''.join([sign * count for sign, count in rows])


def weights_of(text):
    """Return a table of signs to how often each is there, in order."""
    return {sign: text.count(sign) for sign in sorted(set(text))}


def words_for(weights):
    """Return a table of signs to words of noughts and ones, none beginning another, least in all; BadSize.

    The two lightest lots, then those of earlier signs, are joined, the first with "0"; a sign alone has "0".
    """
    if any(weight < 1 for weight in weights.values()):
        raise BadSize("a weight below one")
    words = {sign: '' for sign in sorted(weights)}
    if len(words) == 1:
        return {sign: '0' for sign in words}
    lots = [(weights[sign], sign) for sign in words]
    while len(lots) > 1:
        (weight, signs), (other_weight, other_signs), *rest = sorted(lots)
        for sign in signs:
            words[sign] = '0' + words[sign]
        for sign in other_signs:
            words[sign] = '1' + words[sign]
        lots = rest + [(weight + other_weight, ''.join(sorted(signs + other_signs)))]
    return words


def in_words(text, words):
    """Return a text in words of noughts and ones; BadText for a sign without one."""
    if any(sign not in words for sign in text):
        raise BadText("a sign without a word")
    return ''.join([words[sign] for sign in text])


def out_of_words(bits, words):
    """Return the text of noughts and ones by words, none beginning another; BadText for what is none."""
    signs = {word: sign for sign, word in words.items()}
    found = []
    here = ''
    for bit in bits:
        here = here + bit
        if here in signs:
            found.append(signs[here])
            here = ''
    if here != '':
        raise BadText(f"no word: {here!r}")
    return ''.join(found)


def length_by(weights, words):
    """Return how many noughts and ones signs of some weights take by words."""
    return sum(weights[sign] * len(words[sign]) for sign in weights)
