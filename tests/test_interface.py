"""What the interface lists: names, arguments, defaults, and the file in which each is defined."""

import importlib
import inspect
import unittest

from keepwright import errors
from keepwright.days import Days
from keepwright.stores import Store

SIGNATURES = {
    'keepwright.folders': {
        'check_path': '(path)',
        'check_folder': '(table)',
        'overs_of': '(path)',
        'names_in': '(table, over)',
        'part_of': '(table, over)',
        'between': '(one, other)',
        'changes_to': '(one, other)',
        'changed': '(table, changes)',
        'moved': '(one, other)',
        'size_of': '(table)',
        'twins': '(table)',
    },
    'keepwright.cuts': {
        'check_bounds': '(least, most, window)',
        'even': '(text, size)',
        'sums': '(text, window)',
        'told': '(text, least, most, window, by)',
        'places_of': '(pieces)',
        'shared_pieces': '(one, other)',
        'fresh_signs': '(one, other)',
        'check_pieces': '(text, pieces, least, most)',
        'settled': '(one, other)',
    },
    'keepwright.stores': {
        'figure': '(text)',
        'copied': '(store, other, names)',
        'missing': '(store, names)',
        'mended': '(store, other)',
    },
    'keepwright.trees': {
        'put_text': '(store, text)',
        'get_text': '(store, name)',
        'body': '(store, name, kind)',
        'words_of': '(text)',
        'put_folder': '(store, table)',
        'rows_of': '(store, name)',
        'get_folder': '(store, name)',
        'get_path': '(store, name, path)',
        'needs': '(store, name)',
        'unlike': "(store, one, other, head='')",
        'both_trees': '(store, one, other)',
        'paths_at': '(store, name, head)',
    },
    'keepwright.deltas': {
        'marks': '(text, size)',
        'delta': '(old, new, size)',
        'made': '(old, rows)',
        'cost': '(rows)',
        'best_delta': '(old, new)',
        'check_best': '(old, new, heights, rows)',
        'heights_for': '(old, new)',
        'behind_each_other': '(first, second)',
        'together': '(rows)',
    },
    'keepwright.chains': {
        'levels': '(days)',
        'kept_by': '(folders, days)',
        'best_wholes': '(folders, most)',
        'all_marks': '(count)',
    },
    'keepwright.rules': {
        'after_each': '(rule, times)',
        'both': '(one, other)',
        'check_stays': '(rule, times, stays)',
        'most_kept': '(rule)',
        'widest_gap': '(times)',
        'tower': '(count, turns)',
        'on_tapes': '(count, turns)',
    },
    'keepwright.packs': {
        'check_sizes': '(sizes, room)',
        'first_fit': '(sizes, room)',
        'fewest': '(sizes, room)',
        'at_least': '(sizes, room)',
        'packed': '(left, table, rooms, room, most)',
        'check_rooms': '(sizes, room, rooms)',
        'alive': '(sizes, rooms, needed)',
        'to_write': '(sizes, rooms, needed, part)',
        'written_anew': '(sizes, rooms, needed, part, room)',
        'place_of': '(rooms, name)',
        'rooms_read': '(rooms, names)',
    },
    'keepwright.shares': {
        'turned': '(number)',
        'worth_at': '(points, x)',
        'check_counts': '(few, many)',
        'shares_of': '(row, few, many)',
        'given_back': '(shares, few)',
        'number_rows': '(text, few)',
        'spread': '(text, few, many)',
        'gathered': '(lots, few)',
        'wrong_ones': '(lots, few)',
        'agree': '(lots, few)',
        'by_sums': '(lots)',
    },
    'keepwright.archives': {
        'written': '(table)',
        'entry': '(path, text)',
        'entries': '(text)',
        'entry_at': '(text, place)',
        'is_count': '(word)',
        'is_path': '(word)',
        'read': '(text)',
        'saved': '(text)',
        'listed': '(text)',
        'text_of': '(text, path)',
        'added': '(text, table)',
        'thinned': '(text)',
        'index_of': '(text)',
    },
    'keepwright.squeezes': {
        'check_window': '(window, most)',
        'copies_at': '(text, place, window, most)',
        'squeezed': '(text, window, most)',
        'greedy': '(text, window, most)',
        'told_again': '(rows)',
        'runs_of': '(text)',
        'text_of_runs': '(rows)',
        'weights_of': '(text)',
        'words_for': '(weights)',
        'in_words': '(text, words)',
        'out_of_words': '(bits, words)',
        'length_by': '(weights, words)',
    },
    'keepwright.patterns': {
        'check_pattern': '(pattern)',
        'fits': '(pattern, path)',
        'fit_names': '(pattern, names)',
        'fit_name': '(pattern, name)',
        'picked': '(rules, path)',
        'overs_and': '(path)',
        'check_rules': '(rules)',
        'picked_folder': '(rules, table)',
        'why': '(rules, path)',
        'idle_rules': '(rules, paths)',
    },
    'keepwright.syncs': {
        'deeds': '(base, left, right)',
        'brought': '(base, left, right, side)',
        'put': '(table, path, text)',
        'is_plain': '(base, left, right)',
        'to_send': '(base, left, right, side)',
        'changes_between': '(one, other)',
        'sent': '(table, changes)',
    },
    'keepwright.journals': {
        'line_of': '(number, changes)',
        'read_line': '(line, number)',
        'whole_lines': '(text)',
        'again': '(text, most=None)',
        'opened': '(text)',
        'shortened': '(journal)',
        'is_whole': '(text)',
        'cut_lines': '(text)',
    },
    'keepwright.desks': {
        'number': '(word)',
        'lines_of': '(text)',
        'done_again': '(text)',
    },
}

# Of each class the arguments, the methods and the fields.
CLASSES = {
    'keepwright.stores': {
        'Store': ('(rows=())', {
            'put': '(self, piece)',
            'get': '(self, name)',
            'find': '(self, piece)',
            'drop': '(self, name)',
            'names': '(self)',
            'size': '(self)',
            'broken': '(self)',
            'shown': '(self)',
        }, {'pieces': dict}),
    },
    'keepwright.days': {
        'Days': ('()', {
            'keep': '(self, time, table)',
            'give': '(self, time)',
            'last_at': '(self, time)',
            'text_at': '(self, time, path)',
            'forget': '(self, times)',
            'needed': '(self)',
            'sweep': '(self)',
            'when': '(self, path)',
            'between': '(self, one, other)',
            'hurt': '(self)',
            'shown': '(self)',
        }, {'store': Store, 'times': dict}),
    },
    'keepwright.chains': {
        'Chain': ('()', {
            'keep': '(self, table, since=None)',
            'give': '(self, place)',
            'way': '(self, place)',
            'weight': '(self, place)',
            'to_read': '(self, place)',
            'to_keep': '(self)',
            'hangs': '(self, place)',
        }, {'rows': list}),
    },
    'keepwright.rules': {
        'Rule': ('(last, days, weeks, months)', {
            'parts': '(self)',
            'stays': '(self, times)',
            'goes': '(self, times)',
            'why': '(self, times, time)',
            'shown': '(self)',
        }, {'newest': int, 'days': int, 'weeks': int, 'months': int}),
    },
    'keepwright.journals': {
        'Journal': ('()', {
            'do': '(self, changes)',
            'at': '(self, number)',
        }, {'folder': dict, 'text': str, 'many': int}),
    },
    'keepwright.desks': {
        'Desk': ('()', {
            'say': '(self, line)',
            'do': '(self, line)',
            'let': '(self, table, words)',
            'write': '(self, words, answer)',
            'answer': '(self, words)',
        }, {'folder': dict, 'kept': Days, 'picks': tuple, 'text': str, 'many': int}),
    },
}

# What a class is made of, where it can't be made of nothing.
MADE_OF = {'Rule': (1, 2, 3, 4)}

CONSTANTS = {
    'keepwright.folders': {'SIGNS': 'abcdefghijklmnopqrstuvwxyz0123456789._-'},
    'keepwright.stores': {'BASE': 257, 'WIDE': 1000003},
    'keepwright.trees': {'BOUNDS': (4, 12, 3, 5)},
    'keepwright.rules': {'DAY': 24, 'WEEK': 168, 'MONTH': 672},
    'keepwright.shares': {'PRIME': 257, 'LETTERS': 'abcdefghijklmnopqrstuvwxyz0123456789 ._-/='},
    'keepwright.archives': {'END': 'end'},
    'keepwright.syncs': {'SIDES': ('left', 'right', 'both')},
    'keepwright.desks': {'FIGURES': '0123456789'},
}

KINDS = ('BadPath', 'BadPiece', 'BadRule', 'BadPaper', 'BadSize', 'BadStore', 'BadText', 'Lost', 'NoSuch')


class TestInterface(unittest.TestCase):
    def test_defs(self):
        for module_name, defs in SIGNATURES.items():
            module = importlib.import_module(module_name)
            for name, signature in defs.items():
                with self.subTest(module=module_name, name=name):
                    made = getattr(module, name)
                    self.assertEqual(made.__module__, module_name)
                    self.assertEqual(made.__name__, name)
                    self.assertEqual(str(inspect.signature(made)), signature)

    def test_classes(self):
        for module_name, classes in CLASSES.items():
            module = importlib.import_module(module_name)
            for name, (signature, methods, fields) in classes.items():
                made = getattr(module, name)
                self.assertEqual(made.__module__, module_name)
                self.assertEqual(str(inspect.signature(made)), signature)
                for method, wanted in methods.items():
                    with self.subTest(name=name, method=method):
                        self.assertEqual(str(inspect.signature(vars(made)[method])), wanted)
                thing = made(*MADE_OF.get(name, ()))
                for field, kind in fields.items():
                    with self.subTest(name=name, field=field):
                        self.assertIs(type(vars(thing)[field]), kind)

    def test_constants(self):
        for module_name, constants in CONSTANTS.items():
            module = importlib.import_module(module_name)
            for name, worth in constants.items():
                with self.subTest(module=module_name, name=name):
                    self.assertEqual(getattr(module, name), worth)

    def test_errors(self):
        self.assertEqual(errors.KeepFault.__bases__, (ValueError,))
        self.assertEqual(errors.KeepFault.__module__, 'keepwright.errors')
        for name in KINDS:
            with self.subTest(name=name):
                kind = getattr(errors, name)
                self.assertEqual(kind.__bases__, (errors.KeepFault,))
                self.assertEqual(kind.__module__, 'keepwright.errors')
                self.assertEqual(str(kind('why')), 'why')

    def test_no_kind_catches_another(self):
        for name in KINDS:
            for other in KINDS:
                if name != other:
                    with self.subTest(name=name, other=other):
                        self.assertFalse(issubclass(getattr(errors, name), getattr(errors, other)))


if __name__ == '__main__':
    unittest.main()
