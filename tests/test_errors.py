import unittest

from marblerun import errors

NAMES = (
    "NoSite", "NoExit", "NoPlace", "NoMarble", "TooMany",
    "NotOpen", "NotBare", "NotTree", "TooLong", "NoBoard",
)


class ErrorsTest(unittest.TestCase):
    def test_board_error_is_a_value_error(self):
        self.assertEqual(errors.BoardError.__bases__, (ValueError,))

    def test_each_stands_straight_under_board_error(self):
        for name in NAMES:
            with self.subTest(name=name):
                self.assertEqual(getattr(errors, name).__bases__, (errors.BoardError,))

    def test_each_bears_its_own_name(self):
        self.assertEqual([getattr(errors, name).__name__ for name in NAMES], list(NAMES))

    def test_none_stands_under_another(self):
        for name in NAMES:
            for other in NAMES:
                with self.subTest(name=name, other=other):
                    under = issubclass(getattr(errors, name), getattr(errors, other))
                    self.assertEqual(under, name == other)

    def test_each_can_be_raised_with_words_and_taken_as_any_refusal(self):
        for name in NAMES:
            for taken in (ValueError, errors.BoardError, getattr(errors, name)):
                with self.subTest(name=name, taken=taken):
                    with self.assertRaises(taken) as caught:
                        raise getattr(errors, name)("words")
                    self.assertEqual(str(caught.exception), "words")


if __name__ == "__main__":
    unittest.main()
