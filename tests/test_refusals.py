import string
import unittest

from laidwords.errors import BadBook, BadNote, BadOrder, BadWord, LayError
from laidwords.greedy import greedy
from laidwords.laying import laid
from laidwords.notes import shown
from laidwords.shortest import all_shortest, heights, shortest
from laidwords.words import kept, places

# Every call that takes a book, with all else that it takes as it should be.
CALLS = {
    "kept": lambda book: kept(book),
    "places": lambda book: places(book, "abcab"),
    "places in nothing": lambda book: places(book, ""),
    "laid": lambda book: laid(book, [0]),
    "laid in no order": lambda book: laid(book, []),
    "laid beyond the book": lambda book: laid(book, [0, 99]),
    "heights": lambda book: heights(book),
    "shortest": lambda book: shortest(book),
    "all_shortest": lambda book: all_shortest(book),
    "greedy": lambda book: greedy(book),
    "shown": lambda book: shown(book),
}
# The signs next to a and z, other kinds of signs, and letters beyond a to z that count as small.
NO_LETTERS = ["`", "{", "A", "Z", "M", "0", "9", " ", "\n", "\t", "\r", "-", "_", "%", ".", "\0", "~", "\x7f",
              "\u00e9", "\u00df", "\u00aa", "\u0131", "\u0430", "\uff41", "\u0301", "\ufb01", "\U0001d41a"]
GREAT = 10 ** 5000


class Refusals(unittest.TestCase):
    def refused(self, wanted, call, *handed_in):
        before = [list(each) for each in handed_in]
        with self.assertRaises(ValueError) as taken:
            call(*handed_in)
        self.assertIs(type(taken.exception), wanted)
        self.assertIsInstance(taken.exception, LayError)
        for other in (BadBook, BadWord, BadOrder, BadNote):
            self.assertEqual(isinstance(taken.exception, other), other is wanted)
        self.assertEqual([list(each) for each in handed_in], before)

    def refused_by_all(self, wanted, book):
        for name, call in CALLS.items():
            with self.subTest(call=name, book=book[:8]):
                self.refused(wanted, call, book)


class BadBooks(Refusals):
    def test_no_words(self):
        self.refused_by_all(BadBook, [])

    def test_seven_words_and_more(self):
        for size in (7, 8, 12, 100, 5000):
            self.refused_by_all(BadBook, ["abcdefg"[k % 7] for k in range(size)])

    def test_seven_words_of_which_few_are_kept(self):
        self.refused_by_all(BadBook, ["ab"] * 7)
        self.refused_by_all(BadBook, ["abcdef", "a", "b", "c", "d", "e", "f"])

    def test_bad_book_goes_ahead_of_bad_word(self):
        for bad in ("", "abcdefghijk", "aB", "a b"):
            self.refused_by_all(BadBook, [bad] * 7)
            self.refused_by_all(BadBook, [bad] + ["a"] * 6)
            self.refused_by_all(BadBook, ["a"] * 6 + [bad])

    def test_bad_book_goes_ahead_of_bad_order(self):
        for order in ([], [0, 0], [-1], [7], [GREAT]):
            self.refused(BadBook, laid, [], order)
            self.refused(BadBook, laid, ["a"] * 7, order)


class BadWords(Refusals):
    def test_a_word_without_letters(self):
        self.refused_by_all(BadWord, [""])

    def test_a_word_of_eleven_letters_and_more(self):
        for size in (11, 12, 60, 1000):
            self.refused_by_all(BadWord, ["a" * size])
        self.refused_by_all(BadWord, ["abcdefghijk"])

    def test_a_sign_that_is_no_small_letter(self):
        for sign in NO_LETTERS:
            for word in (sign, sign + "bc", "ab" + sign, "ab" + sign + "cd", "abcde" + sign + "fghi",
                         "abcdefghi" + sign, sign + "abcdefghi"):
                self.refused_by_all(BadWord, [word])

    def test_two_faults_in_one_word(self):
        self.refused_by_all(BadWord, ["ABCDEFGHIJK"])
        self.refused_by_all(BadWord, ["abcdefghij\n"])

    def test_a_bad_word_at_any_place_of_the_book(self):
        for bad in ("", "abcdefghijk", "Ab", "a b", "ab\n"):
            for size in range(1, 7):
                for place in range(size):
                    book = list("abcdef"[:size])
                    book[place] = bad
                    self.refused_by_all(BadWord, book)

    def test_a_bad_word_that_another_holds_or_that_stands_twice(self):
        self.refused_by_all(BadWord, ["ab", "", "ab"])
        self.refused_by_all(BadWord, ["aXb", "aXb"])

    def test_a_bad_word_that_is_not_laid(self):
        self.refused(BadWord, laid, ["a", "b", "C"], [0, 1])

    def test_bad_word_goes_ahead_of_bad_order(self):
        for order in ([], [0, 0], [-1], [3], [GREAT]):
            for bad in ("", "abcdefghijk", "aB"):
                self.refused(BadWord, laid, ["a", bad, "c"], order)


class BadOrders(Refusals):
    def refused_for_all_sizes(self, order_of):
        for size in range(1, 7):
            book = list("abcdef"[:size])
            with self.subTest(size=size):
                self.refused(BadOrder, laid, book, order_of(size))

    def test_no_number(self):
        self.refused_for_all_sizes(lambda size: [])

    def test_a_number_twice(self):
        self.refused_for_all_sizes(lambda size: [0, 0])
        self.refused_for_all_sizes(lambda size: [size - 1, size - 1])
        self.refused_for_all_sizes(lambda size: list(range(size)) + [0])
        self.refused_for_all_sizes(lambda size: list(range(size)) + [size - 1])
        self.refused_for_all_sizes(lambda size: [0] * 1000)

    def test_a_number_twice_where_the_words_are_alike(self):
        self.refused(BadOrder, laid, ["aa", "aa"], [1, 1])

    def test_a_number_below_nought(self):
        self.refused_for_all_sizes(lambda size: [-1])
        self.refused_for_all_sizes(lambda size: [-size])
        self.refused_for_all_sizes(lambda size: [-size - 1])
        self.refused_for_all_sizes(lambda size: [0, -1])
        self.refused_for_all_sizes(lambda size: [-1, 0])

    def test_a_number_beyond_the_book(self):
        self.refused_for_all_sizes(lambda size: [size])
        self.refused_for_all_sizes(lambda size: [size + 1])
        self.refused_for_all_sizes(lambda size: list(range(size + 1)))
        self.refused_for_all_sizes(lambda size: [size, 0])

    def test_a_very_great_number(self):
        for great in (10 ** 6, 2 ** 31, 2 ** 63, 2 ** 64, 10 ** 30, GREAT):
            self.refused_for_all_sizes(lambda size: [great])
            self.refused_for_all_sizes(lambda size: [-great])
            self.refused_for_all_sizes(lambda size: [0, great])
            self.refused_for_all_sizes(lambda size: [great, great])


class NothingRefusedWhereAllIsWell(unittest.TestCase):
    def told_by_all_of_one_word(self, word):
        self.assertEqual(heights([word]), [(((0,), 0), 0)])
        self.assertEqual(all_shortest([word]), [word])
        self.assertEqual(shortest([word]), word)
        self.assertEqual(greedy([word]), word)
        self.assertEqual(shown([word]), word + "\n")

    def test_each_small_letter(self):
        for letter in string.ascii_lowercase:
            self.assertEqual(kept([letter]), [0])
            self.assertEqual(places([letter], letter), [[0]])
            self.assertEqual(laid([letter], [0]), letter)
            self.told_by_all_of_one_word(letter)

    def test_words_of_one_to_ten_letters(self):
        for size in range(1, 11):
            word = "abcdefghij"[:size]
            self.assertEqual(kept([word]), [0])
            self.assertEqual(places([word], "z" + word), [[1]])
            self.assertEqual(laid([word], [0]), word)
            self.told_by_all_of_one_word(word)

    def test_books_of_one_to_six_words(self):
        for size in range(1, 7):
            book = list("uvwxyz"[:size])
            self.assertEqual(kept(book), list(range(size)))
            self.assertEqual(places(book, "uvwxyz"), [[k] for k in range(size)])
            self.assertEqual(laid(book, list(range(size))), "uvwxyz"[:size])
            self.assertEqual(laid(book, [size - 1]), book[-1])
            self.assertEqual(len(heights(book)), size * 2 ** (size - 1))
            self.assertEqual(shortest(book), "uvwxyz"[:size])
            self.assertEqual(all_shortest(book)[-1], "uvwxyz"[:size][::-1])
            self.assertEqual(greedy(book), "uvwxyz"[:size])
            self.assertEqual(shown(book), "".join(word + "\n" for word in book))

    def test_books_of_six_words_alike(self):
        self.assertEqual(kept(["az"] * 6), [0])
        self.assertEqual(places(["az"] * 6, "az"), [[0]] * 6)
        self.assertEqual(laid(["az"] * 6, [5, 4, 3, 2, 1, 0]), "az" * 6)
        self.assertEqual(heights(["az"] * 6), [(((0,), 0), 0)])
        self.assertEqual(shortest(["az"] * 6), "az")
        self.assertEqual(all_shortest(["az"] * 6), ["az"])
        self.assertEqual(greedy(["az"] * 6), "az")
        self.assertEqual(shown(["az"] * 6), "az\n" * 6)


if __name__ == "__main__":
    unittest.main()
