import unittest

from beltshares.errors import (
    BadBelt, BadKnot, BadPaces, BadRow, BadWork, Moving, NoRatio, TooLong, TooMany, WorkError,
)

REFUSALS = [NoRatio, BadBelt, BadKnot, BadWork, BadRow, TooLong, BadPaces, TooMany, Moving]


def made(refusal):
    return BadRow(7) if refusal is BadRow else refusal("words")


class TheTree(unittest.TestCase):
    """[0.3] and the interface of errors.py."""

    def test_work_error_is_a_value_error(self):
        self.assertTrue(issubclass(WorkError, ValueError))
        self.assertIsNot(WorkError, ValueError)
        with self.assertRaises(ValueError):
            raise WorkError("words")

    def test_each_refusal_stands_under_work_error(self):
        for refusal in REFUSALS:
            with self.subTest(refusal=refusal.__name__):
                self.assertTrue(issubclass(refusal, WorkError))
                self.assertIsNot(refusal, WorkError)

    def test_none_stands_under_another(self):
        for place, one in enumerate(REFUSALS):
            for other in REFUSALS[:place] + REFUSALS[place + 1:]:
                with self.subTest(one=one.__name__, other=other.__name__):
                    self.assertFalse(issubclass(one, other))

    def test_each_is_taken_as_itself_and_as_a_work_error(self):
        for refusal in REFUSALS:
            for taken in (refusal, WorkError, ValueError):
                with self.subTest(refusal=refusal.__name__, taken=taken.__name__):
                    with self.assertRaises(taken) as caught:
                        raise made(refusal)
                    self.assertIs(type(caught.exception), refusal)


class TheRow(unittest.TestCase):
    def test_line_is_the_one_it_was_made_with(self):
        for line in (1, 2, 60, 61):
            with self.subTest(line=line):
                self.assertEqual(BadRow(line).line, line)

    def test_two_rows_keep_their_own_lines(self):
        first = BadRow(3)
        second = BadRow(5)
        self.assertEqual((first.line, second.line), (3, 5))

    def test_line_is_there_when_taken(self):
        with self.assertRaises(WorkError) as caught:
            raise BadRow(12)
        self.assertEqual(caught.exception.line, 12)


if __name__ == "__main__":
    unittest.main()
