import itertools
import unittest

from laidwords.laying import laid

from reckoned import all_books, all_words, laid_by_pairs


def all_orders(size):
    return [list(order) for many in range(1, size + 1) for order in itertools.permutations(range(size), many)]


class Laid(unittest.TestCase):
    def told(self, *rows):
        for book, order, text in rows:
            with self.subTest(book=book, order=order):
                answer = laid(book, order)
                self.assertEqual(answer, text)
                self.assertIs(type(answer), str)

    def test_orders_of_one_number(self):
        book = ["abc", "bcd", "cde", "x", "abc", "abcdefghij"]
        for number, word in enumerate(book):
            self.told((book, [number], word))

    def test_orders_of_some_numbers(self):
        book = ["abc", "bcd", "cde"]
        self.told((book, [0, 1], "abcd"), (book, [0, 2], "abcde"), (book, [1, 2], "bcde"),
                  (book, [1, 0], "bcdabc"), (book, [2, 0], "cdeabc"), (book, [2, 1], "cdebcd"))

    def test_orders_of_all_numbers(self):
        book = ["abc", "bcd", "cde"]
        self.told((book, [0, 1, 2], "abcde"), (book, [1, 0, 2], "bcdabcde"), (book, [2, 1, 0], "cdebcdabc"))
        six = ["ab", "bc", "cd", "de", "ef", "fa"]
        self.told((six, [0, 1, 2, 3, 4, 5], "abcdefa"), (six, [5, 4, 3, 2, 1, 0], "faefdecdbcab"),
                  (["a"], [0], "a"))

    def test_words_without_overlap(self):
        self.told((["ab", "cd", "ef"], [0, 1, 2], "abcdef"), (["ab", "cd", "ef"], [2, 0, 1], "efabcd"))

    def test_words_with_and_without_overlap(self):
        self.told((["abc", "xyz", "cx"], [0, 2, 1], "abcxyz"), (["abc", "xyz", "cx"], [0, 1, 2], "abcxyzcx"))

    def test_long_words(self):
        self.told((["abcdefghij", "bcdefghija"], [0, 1], "abcdefghija"), (["a" * 10, "a" * 10], [1, 0], "a" * 11),
                  (["abcdefghij"] * 6, [0, 1, 2, 3, 4, 5], "abcdefghij" * 6))

    def test_the_greatest_overlap_is_taken(self):
        self.told((["xaba", "abay"], [0, 1], "xabay"), (["ababa", "babab"], [0, 1], "ababab"))

    def test_words_alike(self):
        self.told((["aa", "aa"], [0, 1], "aaa"), (["ab", "ab"], [1, 0], "abab"), (["a", "a"], [0, 1], "aa"))

    def test_words_that_are_not_kept_are_laid_too(self):
        self.told((["abc", "b"], [0, 1], "abcb"), (["abc", "bc"], [0, 1], "abcbc"), (["ab", "abc"], [0, 1], "ababc"),
                  (["abc", "b"], [1, 0], "babc"), (["abc", "b"], [1], "b"))

    def test_the_overlap_is_that_with_the_word_laid_ahead_not_with_the_text(self):
        self.told((["ab", "bc", "abcd"], [0, 1, 2], "abcabcd"), (["ab", "b", "bab"], [0, 1, 2], "abbbab"))

    def test_all_orders(self):
        books = (["abc", "bca", "cab", "aab"], ["aa", "a", "ab", "aa"], ["aba", "bab", "abab"], ["abc"],
                 ["ab", "ba", "aab", "b", "bba", "abba"])
        for book in books:
            for order in all_orders(len(book)):
                self.assertEqual(laid(book, order), laid_by_pairs(book, order), (book, order))

    def test_all_pairs_of_short_words(self):
        for book in all_books(all_words("ab", 4), 2):
            self.assertEqual(laid(book, [0, 1]), laid_by_pairs(book, [0, 1]), book)

    def test_book_and_order_are_unchanged(self):
        for order in ([0], [2, 0], [2, 1, 0]):
            book = ["cab", "bc", "ab"]
            before = list(order)
            laid(book, order)
            self.assertEqual(book, ["cab", "bc", "ab"])
            self.assertEqual(order, before)

    def test_book_and_order_may_be_changed_later(self):
        book, order = ["ab", "bc"], [0, 1]
        self.assertEqual(laid(book, order), "abc")
        book[1] = "xy"
        self.assertEqual(laid(book, order), "abxy")
        order.reverse()
        self.assertEqual(laid(book, order), "xyab")
        self.assertEqual(laid(["ab", "bc"], [0, 1]), "abc")


if __name__ == "__main__":
    unittest.main()
