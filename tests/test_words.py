"""Point 5: how a number is written."""

import unittest

from liftcourt.words import number_of

FIGURES = "0123456789"
# The signs that a text handed in may have, but figures.
OTHERS = [chr(code) for code in range(ord(" "), ord("~") + 1) if chr(code) not in FIGURES] + ["\n"]


class Numbers(unittest.TestCase):
    def assertNumber(self, text, number):
        told = number_of(text)
        self.assertEqual(told, number, text)
        self.assertIs(type(told), int)

    def test_0_itself(self):
        self.assertNumber("0", 0)

    def test_small_numbers(self):
        for number in range(3000):
            self.assertNumber(str(number), number)

    def test_one_to_nine_figures_at_both_ends(self):
        for figures in range(1, 10):
            least = 10 ** (figures - 1)
            greatest = 10 ** figures - 1
            for number in (least, least + 1, greatest - 1, greatest):
                self.assertNumber(str(number), number)
        self.assertNumber("123456789", 123456789)
        self.assertNumber("999999999", 999999999)

    def test_a_0_behind_the_first_figure(self):
        self.assertNumber("10", 10)
        self.assertNumber("100000000", 100000000)
        self.assertNumber("102030405", 102030405)


class NoNumbers(unittest.TestCase):
    def assertNone(self, text):
        self.assertIsNone(number_of(text), repr(text))

    def test_the_text_without_signs(self):
        self.assertNone("")

    def test_ten_figures_and_more(self):
        for text in ("1000000000", "1234567890", "9999999999", "0000000000", "1" * 11, "7" * 2000):
            self.assertNone(text)

    def test_a_leading_0(self):
        for text in ("00", "01", "09", "000", "007", "0123", "000000000", "012345678", "0123456789"):
            self.assertNone(text)

    def test_every_other_sign_at_any_place(self):
        for number in ("", "0", "7", "10", "47", "305", "12345678"):
            for place in range(len(number) + 1):
                for sign in OTHERS:
                    self.assertNone(number[:place] + sign + number[place:])

    def test_every_other_sign_in_the_place_of_a_figure(self):
        for number in ("4", "47", "305", "123456789"):
            for place in range(len(number)):
                for sign in OTHERS:
                    self.assertNone(number[:place] + sign + number[place + 1:])

    def test_other_writings_that_python_would_read(self):
        for text in (" 1", "1 ", " 1 ", "+1", "-1", "-0", "+0", "1_0", "1_000", "1\n", "\n1", "\n", " ", "1.0", "1e3"):
            self.assertNone(text)
        for text in ("0x1", "0b1", "0o7", "1L", "True", "None", "one"):
            self.assertNone(text)

    def test_two_numbers(self):
        for text in ("1 2", "1,2", "1;2", "0 0", "1\n2"):
            self.assertNone(text)

    def test_figures_of_other_scripts(self):
        for text in ("\u0661", "1\u0662", "\u00b2", "\uff11"):
            self.assertNone(text)

    def test_long_texts(self):
        for text in (" " * 2000, "0" * 2000, "a" * 2000, "\n" * 2000):
            self.assertNone(text)


class AskedAgain(unittest.TestCase):
    def test_nothing_hangs_on_what_was_asked_before(self):
        texts = ["0", "", "12", "012", "999999999", "1000000000", "1 ", "5"]
        forth = [number_of(text) for text in texts]
        back = [number_of(text) for text in texts[::-1]]
        self.assertEqual(forth, back[::-1])
        self.assertEqual(forth, [0, None, 12, None, 999999999, None, None, 5])


if __name__ == "__main__":
    unittest.main()
