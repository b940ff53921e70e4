"""The errors of the program: their base classes and attributes."""

import unittest

from loadorloose.errors import BadText, LoadError, NoSuchFrame


class Errors(unittest.TestCase):
    def test_base_classes(self):
        self.assertEqual(LoadError.__bases__, (ValueError,))
        self.assertEqual(BadText.__bases__, (LoadError,))
        self.assertEqual(NoSuchFrame.__bases__, (LoadError,))

    def test_line_of_a_bad_text(self):
        error = BadText(7)
        self.assertEqual(error.line, 7)
        self.assertIs(type(error.line), int)
        self.assertFalse(hasattr(error, "name"))

    def test_name_of_a_frame_that_is_not_there(self):
        for name in ("bridge", "", "a b", "7"):
            self.assertEqual(NoSuchFrame(name).name, name)
        self.assertFalse(hasattr(NoSuchFrame("bridge"), "line"))

    def test_objects_keep_their_own_attributes(self):
        first = BadText(1)
        second = BadText(2)
        self.assertEqual((first.line, second.line), (1, 2))

    def test_each_is_caught_as_its_base_classes(self):
        for error in (BadText(3), NoSuchFrame("roof"), LoadError("no")):
            for kind in (LoadError, ValueError):
                with self.assertRaises(kind) as caught:
                    raise error
                self.assertIs(caught.exception, error)

    def test_neither_is_the_other(self):
        self.assertNotIsInstance(BadText(1), NoSuchFrame)
        self.assertNotIsInstance(NoSuchFrame("a"), BadText)

    def test_each_has_a_message(self):
        self.assertIn("12", str(BadText(12)))
        self.assertIn("bridge", str(NoSuchFrame("bridge")))


if __name__ == "__main__":
    unittest.main()
