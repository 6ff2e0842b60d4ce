import unittest

from laidwords.words import kept

from reckoned import all_books, all_words, kept_by_parts


class Kept(unittest.TestCase):
    def told(self, *rows):
        for book, numbers in rows:
            with self.subTest(book=book):
                answer = kept(book)
                self.assertEqual(answer, numbers)
                self.assertIs(type(answer), list)

    def test_a_book_of_one_word(self):
        self.told((["a"], [0]), (["abc"], [0]), (["abcdefghij"], [0]))

    def test_a_book_of_six_words(self):
        self.told(
            (["ab", "bc", "cd", "de", "ef", "fa"], [0, 1, 2, 3, 4, 5]),
            (["fa", "ef", "de", "cd", "bc", "ab"], [0, 1, 2, 3, 4, 5]),
            (["abc", "b", "abc", "bcd", "cd", "x"], [0, 3, 5]),
            (["a", "b", "c", "d", "e", "abcde"], [5]),
            (["abcdefghij", "bcdefghijk", "cdefghijkl", "defghijklm", "efghijklmn", "fghijklmno"], [0, 1, 2, 3, 4, 5]),
        )

    def test_of_words_alike_the_first_is_kept(self):
        self.told((["ab", "ab"], [0]), (["ab"] * 6, [0]), (["x", "ab", "y", "ab", "x"], [0, 1, 2]))

    def test_a_word_held_by_an_unlike_one(self):
        self.told(
            (["abc", "ab"], [0]), (["abc", "bc"], [0]), (["abc", "b"], [0]),
            (["ab", "abc"], [1]), (["bc", "abc"], [1]), (["b", "abc"], [1]),
        )

    def test_words_alike_that_another_holds(self):
        self.told((["b", "b", "abc"], [2]), (["abc", "b", "b"], [0]), (["b", "abc", "b", "abc"], [1]))

    def test_a_word_held_by_one_that_is_not_kept(self):
        self.told((["b", "ab", "abc"], [2]), (["ab", "b", "ab"], [0]), (["abc", "ab", "b"], [0]))

    def test_letters_apart_or_turned_round_are_not_held(self):
        self.told((["ac", "abc"], [0, 1]), (["ba", "abc"], [0, 1]), (["aa", "aba"], [0, 1]), (["cab", "abc"], [0, 1]))

    def test_no_word_is_held_by_two_others_together(self):
        self.told((["ab", "cd", "bc"], [0, 1, 2]), (["abc", "cde", "bcd"], [0, 1, 2]))

    def test_all_books_of_short_words(self):
        for size in (1, 2, 3):
            for book in all_books(all_words("ab", 3), size):
                self.assertEqual(kept(book), kept_by_parts(book), book)

    def test_all_books_of_six_words_out_of_three(self):
        for book in all_books(["a", "ab", "ba"], 6):
            self.assertEqual(kept(book), kept_by_parts(book), book)

    def test_the_book_is_unchanged(self):
        for book in (["ab", "b", "ab"], ["b", "ab"], ["ab"], ["fa", "ef", "de", "cd", "bc", "ab"]):
            before = list(book)
            answer = kept(book)
            self.assertEqual(book, before)
            self.assertIsNot(answer, book)

    def test_what_was_told_may_be_changed(self):
        book = ["ab", "b", "bc"]
        first = kept(book)
        first.append(7)
        first[0] = 9
        second = kept(book)
        self.assertEqual(second, [0, 2])
        self.assertIsNot(first, second)

    def test_the_book_may_be_changed_later(self):
        book = ["ab", "b", "bc"]
        first = kept(book)
        book[1] = "zz"
        book.append("abc")
        self.assertEqual(first, [0, 2])
        self.assertEqual(kept(book), [1, 3])
        self.assertEqual(kept(["ab", "b", "bc"]), [0, 2])


if __name__ == "__main__":
    unittest.main()
