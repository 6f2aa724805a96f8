import unittest

from beltshares.words import number_from

SIGNS = [chr(code) for code in range(32, 127) if chr(code) != "%" and not chr(code).isdigit()]


class NumberFrom(unittest.TestCase):
    """[3.2]"""

    def writes_none(self, word):
        with self.subTest(word=word[:60], signs=len(word)):
            self.assertIsNone(number_from(word))

    def test_one_figure(self):
        self.assertEqual([number_from(word) for word in "0123456789"], [0, 1, 2, 3, 4, 5, 6, 7, 8, 9])

    def test_nought_is_a_number(self):
        self.assertEqual(number_from("0"), 0)
        self.assertIsNot(number_from("0"), None)

    def test_several_figures(self):
        for number in [10, 11, 42, 100, 907, 1000000, 10 ** 29, 10 ** 30 - 1, 123456789012345678901234567890]:
            self.assertEqual(number_from(str(number)), number)

    def test_each_length(self):
        for many in range(1, 31):
            self.assertEqual(number_from("9" * many), 10 ** many - 1)
            self.assertEqual(number_from("1" + "0" * (many - 1)), 10 ** (many - 1))
        for many in [31, 32, 60, 900, 1999, 2000]:
            self.writes_none("9" * many)
            self.writes_none("1" + "0" * (many - 1))

    def test_noughts_ahead(self):
        for word in ["00", "01", "007", "0" * 29, "0" * 30, "0" * 31, "0" + "9" * 29, "0" * 2000]:
            self.writes_none(word)

    def test_the_empty_word(self):
        self.writes_none("")

    def test_other_signs(self):
        for sign in SIGNS:
            self.writes_none(sign)
            for word in ["1", "12", "345", "9" * 29]:
                for place in range(len(word) + 1):
                    self.writes_none(word[:place] + sign + word[place:])

    def test_words_that_python_reads_as_numbers(self):
        for word in ["-1", "+1", "-0", "1_000", " 1", "1 ", "1.0", "1e3", "0x1", "0b1", "0o1", "1.", ".1", "1,000"]:
            self.writes_none(word)

    def test_long_words(self):
        for word in ["a" * 2000, "-" + "1" * 1999, "1" * 1999 + "x", " " * 2000, " " * 1999 + "1"]:
            self.writes_none(word)


if __name__ == "__main__":
    unittest.main()
