"""[5]: the errors."""

import unittest

from sharedunseen import errors


class ErrorsTest(unittest.TestCase):

    def test_classes(self):
        self.assertEqual(errors.StoreError.__bases__, (ValueError,))
        for name in "InvalidStore InvalidText InvalidRun InvalidState InvalidView InvalidTable".split():
            self.assertEqual(getattr(errors, name).__bases__, (errors.StoreError,))
        for name in ("InvalidNumber", "Refused"):
            self.assertEqual(getattr(errors, name).__bases__, (errors.StoreError,))

    def test_attributes(self):
        for name in "InvalidStore InvalidText InvalidRun InvalidView InvalidTable".split():
            self.assertEqual(getattr(errors, name)(7).at, 7)
            self.assertEqual(getattr(errors, name)(at=-1).at, -1)
        for name in ("InvalidNumber", "Refused"):
            self.assertEqual(getattr(errors, name)("most").word, "most")
            self.assertEqual(getattr(errors, name)(word="x").word, "x")
        self.assertIsInstance(errors.InvalidState(), errors.StoreError)

    def test_caught_as_store_error(self):
        with self.assertRaises(errors.StoreError):
            raise errors.Refused("open")
        with self.assertRaises(ValueError):
            raise errors.InvalidState()


if __name__ == "__main__":
    unittest.main()
