import itertools
import string
import unittest

from laidwords.errors import BadBook, BadNote, BadOrder, BadWord, LayError
from laidwords.notes import read, shown

from reckoned import BOOKS, CUT_BOOKS, FULL_BOOKS, all_books, all_words

# From the blank to ~, without the sign that no text to be read has.
OTHER_SIGNS = [chr(code) for code in range(ord(" "), ord("~") + 1) if chr(code) not in string.ascii_lowercase + "%"]


class Shown(unittest.TestCase):
    def told(self, *rows):
        for book, text in rows:
            with self.subTest(book=book):
                answer = shown(book)
                self.assertEqual(answer, text)
                self.assertIs(type(answer), str)

    def test_books(self):
        self.told((["a"], "a\n"), (["abc", "b"], "abc\nb\n"), (["b", "abc"], "b\nabc\n"),
                  (list("zyxwvu"), "z\ny\nx\nw\nv\nu\n"))

    def test_words_that_are_not_kept_are_written_too(self):
        self.told((["ab", "ab"], "ab\nab\n"), (["abc", "b", "abc"], "abc\nb\nabc\n"), (["q"] * 6, "q\n" * 6))

    def test_the_greatest_book(self):
        self.told((["abcdefghij"] * 6, "abcdefghij\n" * 6), (FULL_BOOKS[0], "\n".join(FULL_BOOKS[0]) + "\n"))


class Read(unittest.TestCase):
    def told(self, *rows):
        for text, book in rows:
            with self.subTest(text=text):
                answer = read(text)
                self.assertEqual(answer, book)
                self.assertIs(type(answer), list)
                for word in answer:
                    self.assertIs(type(word), str)

    def test_books(self):
        self.told(("a\n", ["a"]), ("abc\nb\n", ["abc", "b"]), ("b\nabc\n", ["b", "abc"]), ("q\n" * 6, ["q"] * 6),
                  ("z\ny\nx\nw\nv\nu\n", list("zyxwvu")))

    def test_each_small_letter_and_each_size(self):
        for letter in string.ascii_lowercase:
            self.told((letter + "\n", [letter]))
        for size in range(1, 11):
            self.told(("a" * size + "\n", ["a" * size]))
        for size in range(1, 7):
            self.told(("ab\n" * size, ["ab"] * size))

    def test_the_greatest_book(self):
        self.told(("abcdefghij\n" * 6, ["abcdefghij"] * 6), ("\n".join(FULL_BOOKS[0]) + "\n", FULL_BOOKS[0]))

    def test_what_is_written_is_read_to_the_same_book(self):
        for book in BOOKS + FULL_BOOKS + CUT_BOOKS:
            self.assertEqual(read(shown(book)), book)
        for size in (1, 2, 3):
            for book in all_books(all_words("ab", 2), size):
                self.assertEqual(read(shown(book)), book)

    def test_no_two_books_are_written_alike(self):
        books = [book for size in (1, 2, 3) for book in all_books(all_words("ab", 2), size)]
        self.assertEqual(len({shown(book) for book in books}), len(books))


class BadNotes(unittest.TestCase):
    def refused(self, *texts):
        for text in texts:
            with self.subTest(text=text):
                with self.assertRaises(ValueError) as taken:
                    read(text)
                self.assertIs(type(taken.exception), BadNote)
                self.assertIsInstance(taken.exception, LayError)
                self.assertNotIsInstance(taken.exception, (BadBook, BadWord, BadOrder))

    def test_an_empty_text(self):
        self.refused("")

    def test_a_missing_last_line_end(self):
        self.refused("a", "abc", "ab\ncd", "ab\ncd\nef", "abcdefghij", "\n".join(["abcdefghij"] * 6))

    def test_an_empty_line(self):
        self.refused("\n", "\n\n", "\na\n", "a\n\n", "a\n\nb\n", "\nab", "a\nb\nc\nd\ne\n\n", "\n" * 6, "\n" * 7)

    def test_a_line_of_eleven_letters_and_more(self):
        self.refused("abcdefghijk\n", "a\nabcdefghijk\n", "abcdefghijk\na\n", "a" * 20 + "\n", "a" * 99 + "\n")

    def test_seven_lines_and_more(self):
        self.refused("a\n" * 7, "abcdefghij\n" * 7, "a\nb\nc\nd\ne\nf\ng\n", "a\n" * 8, "a\n" * 50)

    def test_six_lines_and_letters_behind_them(self):
        self.refused("a\n" * 6 + "a", "a\n" * 6 + "\n", "a\n" * 6 + " ")

    def test_any_other_sign(self):
        for sign in OTHER_SIGNS:
            self.refused(sign, sign + "\n", sign + "a\n", "a" + sign + "\n", "a" + sign + "b\n", "ab\nc" + sign + "\n",
                         "ab" + sign + "\nc\n", "ab\n" + sign, "ab" + sign + "cd", "ab\n" + sign + "\ncd\n",
                         sign + "ab\n", "ab\n" + sign + "cd\n", "ab\ncd\n" + sign)

    def test_other_line_ends(self):
        self.refused("ab\r\n", "ab\r", "ab\rcd\n", "ab\vcd\n", "ab\fcd\n", "ab\x1ccd\n", "ab\u2028cd\n", "ab\x85")

    def test_texts_of_a_hundred_signs_and_somewhat_beyond(self):
        self.refused("a" * 100, "\n" * 100, " " * 100, "a\n" * 50, "abcdefghi\n" * 10, "a" * 120, "ab\n" * 40)

    def test_all_short_texts(self):
        books = [book for size in (1, 2, 3) for book in all_books(["a", "b", "aa", "ab", "ba", "bb"], size)]
        books.extend([text] for text in all_words("ab", 5))
        books.extend(all_books(all_words("ab", 3), 2))
        written = {shown(book): book for book in books}
        for size in range(7):
            for signs in itertools.product("ab\n B", repeat=size):
                text = "".join(signs)
                try:
                    answer = read(text)
                except BadNote:
                    answer = None
                self.assertEqual(answer, written.get(text), text)


if __name__ == "__main__":
    unittest.main()
