import unittest

from laidwords.laying import laid
from laidwords.shortest import all_shortest, shortest
from laidwords.words import kept

from reckoned import (BOOKS, CUT_BOOKS, FULL_BOOKS, all_books, all_words, kept_by_parts, laid_by_pairs,
                      shortest_of_all_orders, shortest_of_all_texts, texts_of_all_orders)

MANY_BOOKS = BOOKS + FULL_BOOKS + CUT_BOOKS


class Shortest(unittest.TestCase):
    def told(self, *rows):
        for book, texts in rows:
            with self.subTest(book=book):
                answer = all_shortest(book)
                self.assertEqual(answer, texts)
                self.assertIs(type(answer), list)
                first = shortest(book)
                self.assertEqual(first, texts[0])
                self.assertIs(type(first), str)

    def test_a_book_of_one_word(self):
        self.told((["a"], ["a"]), (["abc"], ["abc"]), (["abcdefghij"], ["abcdefghij"]))

    def test_one_shortest_text(self):
        self.told(
            (["abc", "bcd", "cde"], ["abcde"]),
            (["cde", "abc", "bcd"], ["abcde"]),
            (["fa", "ef", "de", "cd", "bc"], ["bcdefa"]),
            (["cabab", "baba", "ababc"], ["cabababc"]),
        )

    def test_several_shortest_texts_in_order(self):
        self.told(
            (["b", "a"], ["ab", "ba"]),
            (["ca", "bc", "ab"], ["abca", "bcab", "cabc"]),
            (["c", "b", "a"], ["abc", "acb", "bac", "bca", "cab", "cba"]),
            (["zy", "yz"], ["yzy", "zyz"]),
            (["ab", "cd"], ["abcd", "cdab"]),
        )

    def test_a_text_that_two_orders_give_stands_once(self):
        book = ["xa", "ba", "by", "ab"]
        self.assertEqual(laid_by_pairs(book, [0, 1, 3, 2]), "xababy")
        self.assertEqual(laid_by_pairs(book, [0, 3, 1, 2]), "xababy")
        self.assertEqual(all_shortest(book).count("xababy"), 1)

    def test_held_words_and_words_alike(self):
        self.told(
            (["ab"] * 6, ["ab"]), (["abc", "b"], ["abc"]), (["b", "abc", "b", "abc"], ["abc"]),
            (["aa", "aa"], ["aa"]), (["a", "b", "ba"], ["ba"]), (["a", "b", "c", "d", "e", "abcde"], ["abcde"]),
            (["abc", "b", "bcd", "cde", "abc"], ["abcde"]), (["b", "ab", "abc", "ca"], ["abca", "cabc"]),
        )

    def test_six_words_of_one_letter(self):
        texts = all_shortest(["f", "a", "c", "e", "b", "d"])
        self.assertEqual(len(texts), 720)
        self.assertEqual([texts[0], texts[1], texts[-1]], ["abcdef", "abcdfe", "fedcba"])

    def test_full_books_of_six_words_of_ten_letters(self):
        self.told((FULL_BOOKS[0], ["abcdefghijklmno"]), (FULL_BOOKS[5], ["zzzzzzzzzz"]))
        apart = all_shortest(FULL_BOOKS[3])
        self.assertEqual(len(apart), 720)
        self.assertEqual({len(text) for text in apart}, {60})
        self.assertEqual(shortest(FULL_BOOKS[3]), "".join(letter * 10 for letter in "abcdef"))

    def test_against_all_orders(self):
        for book in MANY_BOOKS:
            wanted = shortest_of_all_orders(book)
            self.assertEqual(all_shortest(book), wanted, book)
            self.assertEqual(shortest(book), wanted[0], book)

    def test_all_books_of_short_words_against_all_orders(self):
        for size in (1, 2, 3):
            for book in all_books(all_words("ab", 3), size):
                self.assertEqual(all_shortest(book), shortest_of_all_orders(book), book)

    def test_each_once_and_in_order(self):
        for book in MANY_BOOKS:
            texts = all_shortest(book)
            self.assertTrue(all(one < other for one, other in zip(texts, texts[1:])), book)

    def test_each_holds_all_words(self):
        for book in MANY_BOOKS:
            for text in all_shortest(book) + [shortest(book)]:
                self.assertTrue(all(word in text for word in book), (book, text))

    def test_the_order_of_the_book_changes_nothing(self):
        for book in MANY_BOOKS:
            self.assertEqual(all_shortest(book), all_shortest(book[::-1]), book)
            self.assertEqual(all_shortest(book), all_shortest(sorted(book)), book)


class AgainstAllTexts(unittest.TestCase):
    """That no text of fewer letters holds all words, and no other of as many does."""

    def check(self, book):
        self.assertEqual(all_shortest(book), shortest_of_all_texts(book), book)

    def test_chosen_books(self):
        for book in BOOKS:
            letters, size = len(set("".join(book))), len(shortest(book))
            if letters ** size <= 10000:
                self.check(book)

    def test_all_books_of_short_words(self):
        for size in (1, 2):
            for book in all_books(all_words("ab", 3), size):
                self.check(book)
        for book in all_books(all_words("ab", 2), 3):
            self.check(book)
        for book in all_books(["ab", "bc", "ca", "b"], 3):
            self.check(book)

    def test_books_of_four_words(self):
        for book in all_books(["aa", "aba", "bab", "bba"], 4):
            self.check(book)


class WordsLaidInAnyOrder(unittest.TestCase):
    def test_the_kept_words_laid_in_any_order_hold_all_words(self):
        for book in MANY_BOOKS:
            for text in set(texts_of_all_orders(book)):
                self.assertTrue(all(word in text for word in book), (book, text))

    def test_the_program_lays_the_kept_words_so(self):
        for book in BOOKS + CUT_BOOKS:
            numbers = kept(book)
            self.assertEqual(numbers, kept_by_parts(book))
            for order in (numbers, numbers[::-1]):
                text = laid(book, order)
                self.assertIn(text, texts_of_all_orders(book))
                self.assertTrue(all(word in text for word in book), (book, text))


if __name__ == "__main__":
    unittest.main()
