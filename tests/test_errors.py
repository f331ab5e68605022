import unittest

from ringlayers.errors import NoPiece, NoText, RingError


class ErrorsTest(unittest.TestCase):
    def test_ring_error_is_a_value_error(self):
        with self.assertRaises(ValueError):
            raise RingError("refused")

    def test_ring_error_and_value_error_take_both(self):
        for taken in (RingError, ValueError):
            for raised in (NoText, NoPiece):
                with self.subTest(taken=taken, raised=raised):
                    with self.assertRaises(taken):
                        raise raised("refused")

    def test_neither_takes_the_other(self):
        self.assertFalse(issubclass(NoText, NoPiece))
        self.assertFalse(issubclass(NoPiece, NoText))

    def test_a_plain_ring_error_is_neither(self):
        self.assertFalse(issubclass(RingError, (NoText, NoPiece)))


if __name__ == "__main__":
    unittest.main()
