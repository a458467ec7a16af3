"""[0.4] and the interface of onewatcher/errors.py."""

import unittest

from onewatcher import errors
from onewatcher.errors import BadArena, BadParts, BadRow, BadState, BadText, OutOfTree, WatchError

KINDS = (BadParts, OutOfTree, BadText, BadState, BadRow, BadArena)


class ErrorsTest(unittest.TestCase):
    def test_base_class(self):
        self.assertEqual(WatchError.__bases__, (ValueError,))

    def test_every_error_is_a_watch_error_of_its_own(self):
        for kind in KINDS:
            with self.subTest(kind=kind.__name__):
                self.assertTrue(issubclass(kind, WatchError))
                others = [other for other in KINDS if other is not kind]
                self.assertFalse(any(issubclass(kind, other) for other in others))

    def test_classes_are_defined_in_this_file(self):
        for kind in KINDS + (WatchError,):
            self.assertEqual(kind.__module__, errors.__name__)

    def test_bad_text_has_its_line(self):
        for line in (0, 1, 200):
            self.assertEqual(BadText(line).line, line)
        with self.assertRaises(WatchError) as caught:
            raise BadText(7)
        self.assertEqual(caught.exception.line, 7)


if __name__ == "__main__":
    unittest.main()
