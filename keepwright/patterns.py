"""Patterns: paths picked by "*" and "?" within names, "**" for any names, and rules in turn that take or leave them."""

from keepwright.errors import BadRule
from keepwright.folders import SIGNS, check_folder, overs_of


def check_pattern(pattern):
    """Return a pattern: names of a path's signs, "*" and "?", strokes between, "**" a whole name; BadRule."""
    for name in pattern.split('/'):
        if name == '' or name.strip(SIGNS + '*?') != '' or ('**' in name and name != '**'):
            raise BadRule(f"no pattern: {pattern!r}")
    return pattern


def fits(pattern, path):
    """Tell whether a path is one of a pattern's; BadRule."""
    return fit_names(check_pattern(pattern).split('/'), path.split('/'))


def fit_names(pattern, names):
    """Tell whether names are those of a pattern's names, "**" any names or none."""
    return fit_parts(pattern, names, '**', fit_name)


def fit_name(pattern, name):
    """Tell whether a name is one of a pattern's name: "*" any signs, "?" one."""
    return fit_parts(pattern, name, '*', fit_sign)


def fit_sign(part, sign):
    """Tell whether a sign is one of a pattern's sign."""
    return part in ('?', sign)


def fit_parts(pattern, parts, many, fit):
    """Tell whether parts are those of a pattern's parts, one that stands for many any parts or none, else one each."""
    # For each count of parts, whether so many of them are told by what of the pattern is read.
    ends = [True] + [False] * len(parts)
    for part in pattern:
        if part == many:
            ends = [any(ends[:count + 1]) for count in range(len(ends))]
        else:
            ends = [False] + [ends[count] and fit(part, other) for count, other in enumerate(parts)]
    return ends[-1]


def picked(rules, path):
    """Tell whether a path is taken by rules: by the last that fits it or a path it lies within, else taken; BadRule."""
    place = why(rules, path)
    return place is None or rules[place][0] == '+'


def overs_and(path):
    """Return the paths that a path lies within, and it."""
    return [*overs_of(path), path]


def check_rules(rules):
    """Return rules, each "+" or "-" and a pattern; BadRule."""
    found = []
    for sign, pattern in rules:
        if sign not in ('+', '-'):
            raise BadRule(f"no sign of a rule: {sign!r}")
        found.append((sign, check_pattern(pattern)))
    return tuple(found)


def picked_folder(rules, table):
    """Return the folder of the paths that rules take; BadPath, BadRule."""
    found = check_folder(table)
    rows = check_rules(rules)
    return {path: found[path] for path in found if picked(rows, path)}


def why(rules, path):
    """Return the place of the rule by which a path is taken or left, None for none; BadRule."""
    paths = overs_and(path)
    last = None
    for place, (_, pattern) in enumerate(check_rules(rules)):
        if any(fits(pattern, over) for over in paths):
            last = place
    return last


def idle_rules(rules, paths):
    """Return the places of rules without which all of some paths are taken and left as they are, in order; BadRule."""
    rows = check_rules(rules)
    now = [picked(rows, path) for path in paths]
    found = []
    for place in range(len(rows)):
        left = rows[:place] + rows[place + 1:]
        if [picked(left, path) for path in paths] == now:
            found.append(place)
    return tuple(found)
