"""What the interface lists: names, arguments, defaults, and the file in which each is defined."""

import importlib
import inspect
import unittest

from keepwright import errors

SIGNATURES = {
    'keepwright.folders': {
        'check_path': '(path)',
        'check_folder': '(table)',
        'overs_of': '(path)',
        'names_in': '(table, over)',
        'part_of': '(table, over)',
        'between': '(one, other)',
        'changes_to': '(one, other)',
        'changed': '(table, changes)',
        'moved': '(one, other)',
        'size_of': '(table)',
        'twins': '(table)',
    },
    'keepwright.cuts': {
        'check_bounds': '(least, most, window)',
        'even': '(text, size)',
        'sums': '(text, window)',
        'told': '(text, least, most, window, by)',
        'places_of': '(pieces)',
        'shared_pieces': '(one, other)',
        'fresh_signs': '(one, other)',
        'check_pieces': '(text, pieces, least, most)',
        'settled': '(one, other)',
    },
}

CONSTANTS = {
    'keepwright.folders': {'SIGNS': 'abcdefghijklmnopqrstuvwxyz0123456789._-'},
}

KINDS = ('BadPath', 'BadPiece', 'BadRule', 'BadPaper', 'BadSize', 'BadStore', 'BadText', 'Lost', 'NoSuch')


class TestInterface(unittest.TestCase):
    def test_defs(self):
        for module_name, defs in SIGNATURES.items():
            module = importlib.import_module(module_name)
            for name, signature in defs.items():
                with self.subTest(module=module_name, name=name):
                    made = getattr(module, name)
                    self.assertEqual(made.__module__, module_name)
                    self.assertEqual(made.__name__, name)
                    self.assertEqual(str(inspect.signature(made)), signature)

    def test_constants(self):
        for module_name, constants in CONSTANTS.items():
            module = importlib.import_module(module_name)
            for name, worth in constants.items():
                with self.subTest(module=module_name, name=name):
                    self.assertEqual(getattr(module, name), worth)

    def test_errors(self):
        self.assertEqual(errors.KeepFault.__bases__, (ValueError,))
        self.assertEqual(errors.KeepFault.__module__, 'keepwright.errors')
        for name in KINDS:
            with self.subTest(name=name):
                kind = getattr(errors, name)
                self.assertEqual(kind.__bases__, (errors.KeepFault,))
                self.assertEqual(kind.__module__, 'keepwright.errors')
                self.assertEqual(str(kind('why')), 'why')

    def test_no_kind_catches_another(self):
        for name in KINDS:
            for other in KINDS:
                if name != other:
                    with self.subTest(name=name, other=other):
                        self.assertFalse(issubclass(getattr(errors, name), getattr(errors, other)))


if __name__ == '__main__':
    unittest.main()
