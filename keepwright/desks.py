"""Desks: lines said to a folder and its kept days, answered, written down and done again."""

from keepwright.days import Days
from keepwright.errors import KeepFault, BadPaper, BadPath, BadPiece, BadRule, BadSize, BadStore, BadText, Lost, NoSuch
from keepwright.folders import between, check_folder
from keepwright.patterns import picked_folder
from keepwright.rules import Rule
from keepwright.stores import figure
from keepwright.syncs import put
from keepwright.trees import all_needs

FIGURES = '0123456789'


def number(word):
    """Return the number of one to four figures; BadText."""
    if not 0 < len(word) < 5 or word.strip(FIGURES) != '':
        raise BadText(f"no number: {word!r}")
    return int(word)


class Desk:
    """A folder, its kept days, rules in turn for what is kept, and the text of what was done."""

    def __init__(self):
        self.folder = {}
        self.kept = Days()
        self.picks = ()
        self.text = ''
        self.many = 0

    def say(self, line):
        """Do or answer a line; return the answer, "error: ..." for what is refused."""
        try:
            return self.do(line)
        except BadText:
            return 'error: text'
        except BadPath:
            return 'error: path'
        except BadPiece:
            return 'error: piece'
        except BadRule:
            return 'error: rule'
        except BadPaper:
            return 'error: paper'
        except BadSize:
            return 'error: size'
        except Lost:
            return 'error: lost'
        except NoSuch:
            return 'error: no such'

    def do(self, line):
        """Do or answer a line by its first word; what changes something is written down; BadText."""
        words = [word for word in line.split(' ') if word != '']
        if words == [] or '\n' in line:
            raise BadText(f"no line: {line!r}")
        match words:
            case ['put', path, text]:
                return str(self.let(put(self.folder, path, text), words))
            case ['drop', path]:
                self.check_there(path)
                return str(self.let(put(self.folder, path, None), words))
            case ['back', time]:
                return str(self.let(self.kept.give(number(time)), words))
            case ['pick', sign, pattern]:
                return self.pick(sign, pattern, words)
            case ['keep', time]:
                many = self.kept.keep(number(time), picked_folder(self.picks, self.folder))
                return self.write(words, str(many))
            case ['thin', last, days, weeks, months]:
                return self.thin(Rule(number(last), number(days), number(weeks), number(months)), words)
        return self.answer(words)

    def check_there(self, path):
        """Return a path that has a text; NoSuch."""
        if path not in self.folder:
            raise NoSuch(f"no text there: {path!r}")
        return path

    def let(self, table, words):
        """Let a folder be, and write the line down; return how many paths changed; BadPath."""
        fresh = check_folder(table)
        many = len(between(self.folder, fresh))
        self.folder = fresh
        return self.write(words, many)

    def pick(self, sign, pattern, words):
        """Put a rule behind the others, and write the line down; answer how many paths are taken now; BadRule."""
        picks = self.picks + ((sign, pattern),)
        many = len(picked_folder(picks, self.folder))
        self.picks = picks
        return self.write(words, str(many))

    def thin(self, rule, words):
        """Forget what a rule lets go, sweep, and write the line down; answer how many of each; BadPiece, NoSuch."""
        kept = self.kept
        times = list(kept.times)
        # Pieces may be changed from outside: whether all that stay can be read is asked ahead of what is forgotten.
        all_needs(kept.store, [kept.times[time] for time in rule.stays(times)])
        gone = rule.goes(times)
        kept.forget(gone)
        swept = kept.sweep()
        return self.write(words, f"{len(gone)} {len(swept)}")

    def write(self, words, answer):
        """Write a line down; return an answer."""
        body = ' '.join([str(self.many), *words])
        self.text = self.text + f"{body} {figure(body)}\n"
        self.many += 1
        return answer

    def answer(self, words):
        """Return paths, a text, kept times, what lies between two, or how much is stored; BadText, NoSuch."""
        match words:
            case ['list']:
                return ' '.join(self.folder)
            case ['days']:
                return ' '.join([str(kept) for kept in sorted(self.kept.times)])
            case ['show', path]:
                return self.folder[self.check_there(path)]
            case ['was', time, path]:
                return self.kept.text_at(number(time), path)
            case ['since', time]:
                rows = between(self.kept.give(number(time)), self.folder)
                return ' '.join([sign + place for sign, place in rows])
            case ['size']:
                return f"{len(self.kept.store.pieces)} {self.kept.store.size()}"
        raise BadText("no line")


def lines_of(text):
    """Return the lines of a written text, a row without an end left out; BadStore."""
    found = []
    for place, row in enumerate(text.split('\n')[:-1]):
        body, _, mark = row.rpartition(' ')
        head, _, line = body.partition(' ')
        if head != str(place) or mark != str(figure(body)):
            raise BadStore(f"not whole: {row!r}")
        found.append(line)
    return tuple(found)


def done_again(text):
    """Return the desk that a text's lines make from nothing; BadStore for what can't be."""
    desk = Desk()
    for line in lines_of(text):
        try:
            desk.do(line)
        except KeepFault:
            raise BadStore(f"can't be done: {line!r}")
    # A line that a desk wouldn't write, as it changes nothing, can't be in the text of one.
    if desk.text != text[:text.rfind('\n') + 1]:
        raise BadStore("not what a desk writes")
    return desk
