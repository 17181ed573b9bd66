import unittest

from deadrules import errors

STYLE = {
    'ParseError': 'line', 'InvalidText': 'value', 'InvalidPath': 'path', 'InvalidNumber': 'value',
    'InvalidPart': 'value', 'InvalidName': 'name', 'InvalidPiece': 'value', 'InvalidPaper': 'value',
    'InvalidSheets': 'value', 'InvalidDocument': 'path', 'InvalidCommand': 'value',
}
OTHER = {
    'LimitExceeded': (OverflowError, 'limit'), 'NothingToUndo': (RuntimeError, 'amount'),
    'DraftClosed': (RuntimeError, 'name'),
}
FIELDS = {**STYLE, **{name: field for name, (_, field) in OTHER.items()}}


class ErrorsTest(unittest.TestCase):
    def test_field_by_position_and_by_name(self):
        for name, field in FIELDS.items():
            made = getattr(errors, name)
            with self.subTest(name):
                self.assertEqual(getattr(made(3), field), 3)
                self.assertEqual(getattr(made(**{field: 4}), field), 4)

    def test_any_value_is_kept_itself(self):
        deep = []
        for _ in range(5000):
            deep = [deep]
        values = [None, True, False, 0, 10 ** 29, '', 'text', b'x', [1], (1,), {'a': [1]}, {1}, object(), deep,
                  errors.StyleError('x'), ValueError]
        for name, field in FIELDS.items():
            for value in values:
                made = getattr(errors, name)
                self.assertIs(getattr(made(value), field), value)
                self.assertIs(getattr(made(**{field: value}), field), value)

    def test_one_field_is_asked_for(self):
        for name in FIELDS:
            made = getattr(errors, name)
            with self.subTest(name):
                self.assertRaises(TypeError, made)
                self.assertRaises(TypeError, made, 1, 2)
                self.assertRaises(TypeError, made, other=1)

    def test_bases(self):
        self.assertEqual(errors.StyleError.__bases__, (ValueError,))
        for name in STYLE:
            self.assertEqual(getattr(errors, name).__bases__, (errors.StyleError,), name)
        for name, (base, _) in OTHER.items():
            self.assertEqual(getattr(errors, name).__bases__, (base,), name)

    def test_no_error_is_another_one(self):
        for name in FIELDS:
            for other in FIELDS:
                made = getattr(errors, name)(1)
                self.assertEqual(isinstance(made, getattr(errors, other)), name == other)

    def test_no_error_is_left_out_or_added(self):
        found = {name for name, value in vars(errors).items() if isinstance(value, type)}
        self.assertEqual(found, {'StyleError', *FIELDS})

    def test_can_be_raised_and_caught(self):
        for name, field in FIELDS.items():
            made = getattr(errors, name)
            with self.assertRaises(made) as caught:
                raise made((1, 2))
            self.assertEqual(getattr(caught.exception, field), (1, 2))
            self.assertIsInstance(str(caught.exception), str)


if __name__ == '__main__':
    unittest.main()
