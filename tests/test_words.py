"""[3] words_of and [4] is_name and number words."""

import unittest

from flowkinds.errors import BadText
from flowkinds.reading import is_name, read, words_of

KEPT = "def fn call let rec get tag case row at join size add sub less".split()


class WordsTest(unittest.TestCase):
    def words(self, text, *words):
        self.assertEqual(words_of(text), list(words))

    def test_no_words(self):
        for text in ("", " ", "\n", " \n \n\n  "):
            with self.subTest(text):
                self.words(text)

    def test_blanks_and_line_feeds_part_words(self):
        self.words("a b\nc", "a", "b", "c")
        self.words("  a \n\n b  ", "a", "b")

    def test_a_bracket_is_a_word_by_itself(self):
        self.words("(", "(")
        self.words(")", ")")
        self.words("(()", "(", "(", ")")
        self.words("(a)b(c", "(", "a", ")", "b", "(", "c")
        self.words("( def a 1 )", "(", "def", "a", "1", ")")

    def test_a_tab_is_a_sign_of_words(self):
        self.words("a\tb", "a\tb")
        self.words("\t", "\t")
        self.words("(\t)", "(", "\t", ")")
        self.words("a \t b", "a", "\t", "b")

    def test_every_other_sign_stands_in_words(self):
        signs = "".join(chr(code) for code in range(33, 127) if chr(code) not in "()")
        self.words(signs, signs)
        for sign in signs:
            with self.subTest(sign):
                self.words(f"a{sign}b", f"a{sign}b")

    def test_the_longest_text(self):
        self.words("a" * 30000, "a" * 30000)
        self.words("(" * 30000, *["("] * 30000)
        self.words("a " * 15000, *["a"] * 15000)

    def test_a_list_told_is_the_askers_own(self):
        told = words_of("a b")
        told.append("c")
        self.words("a b", "a", "b")


class NamesTest(unittest.TestCase):
    def test_names(self):
        good = ["a", "z", "a0", "z9", "a" * 12, "abcdefghijkl", "mnopqrstuvwx", "yz0123456789", "x0y1", "a" + "0" * 11]
        good += ["deff", "fns", "de", "lesss", "num", "name", "yes", "any"]
        for word in good:
            with self.subTest(word):
                self.assertIs(is_name(word), True)

    def test_words_that_are_no_names(self):
        bad = ["", "a" * 13, "a" + "0" * 12, "0", "0a", "9", "A", "aB", "Za", "a_", "_a", "a-b", "-", "a.", "a b", " a"]
        bad += ["a ", "a\n", "\na", "a\t", "(", ")", "a(", "\xe4", "a\xe4", "a\xb2", "\u0661", "a\u0661", "a" * 30000]
        for word in bad:
            with self.subTest(word):
                self.assertIs(is_name(word), False)

    def test_only_small_letters_and_figures(self):
        for code in range(128):
            sign = chr(code)
            small = "a" <= sign <= "z"
            with self.subTest(sign):
                self.assertIs(is_name(sign), small)
                self.assertIs(is_name("b" + sign), small or "0" <= sign <= "9")

    def test_kept_words_are_no_names(self):
        self.assertEqual(len(KEPT), 15)
        for word in KEPT:
            with self.subTest(word):
                self.assertIs(is_name(word), False)
                self.assertIs(is_name(word + "0"), True)


class NumbersTest(unittest.TestCase):
    def test_number_words(self):
        good = [str(figure) for figure in range(10)] + ["10", "100", "1234567890", "1" + "0" * 59, "9" * 60]
        for word in good:
            with self.subTest(word):
                row = read(f"( def a {word} )").rows[0]
                self.assertEqual(row, ("num", int(word)))
                self.assertIs(type(row[1]), int)

    def test_words_that_are_no_numbers(self):
        bad = ["1" * 61, "1" + "0" * 60, "1" * 5000, "00", "01", "007", "0" * 60, "-1", "+1", "1.0", "1a", "1_0", "0x1"]
        bad += ["1\t", "\t1", "\xb2", "\u0661", "1\u0661"]
        for word in bad:
            with self.subTest(word):
                with self.assertRaises(BadText):
                    read(f"( def a {word} )")


if __name__ == "__main__":
    unittest.main()
