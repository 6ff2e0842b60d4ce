import itertools
import unittest

from laidwords.words import places


def places_by_search(word, text):
    """The places of a word, found one behind the other."""
    found = []
    place = text.find(word)
    while place != -1:
        found.append(place)
        place = text.find(word, place + 1)
    return found


class Places(unittest.TestCase):
    def told(self, *rows):
        for book, text, lists in rows:
            with self.subTest(book=book, text=text):
                answer = places(book, text)
                self.assertEqual(answer, lists)
                self.assertIs(type(answer), list)
                for each in answer:
                    self.assertIs(type(each), list)

    def test_a_word_at_no_place(self):
        self.told((["x"], "abc", [[]]), (["ac"], "abc", [[]]), (["abcd"], "abc", [[]]), (["bcd"], "abc", [[]]))

    def test_a_word_at_one_place(self):
        self.told((["a"], "abc", [[0]]), (["b"], "abc", [[1]]), (["bc"], "abc", [[1]]), (["abc"], "abc", [[0]]))

    def test_a_word_at_several_places(self):
        self.told((["ab"], "abcabxab", [[0, 3, 6]]), (["a"], "abaca", [[0, 2, 4]]))

    def test_places_that_run_into_one_another(self):
        self.told((["aa"], "aaaa", [[0, 1, 2]]), (["aba"], "abababa", [[0, 2, 4]]), (["abab"], "xabababx", [[1, 3]]))

    def test_each_word_in_the_order_of_the_book(self):
        self.told(
            (["c", "a", "b"], "abc", [[2], [0], [1]]),
            (["bc", "x", "b", "abc"], "abcbc", [[1, 3], [], [1, 3], [0]]),
            (["a", "b", "c", "d", "e", "f"], "fedcba", [[5], [4], [3], [2], [1], [0]]),
        )

    def test_words_that_are_not_kept_have_their_lists_too(self):
        self.told((["ab", "ab", "b"], "abab", [[0, 2], [0, 2], [1, 3]]))

    def test_the_empty_text(self):
        self.told((["a"], "", [[]]), (["ab", "b", "ab"], "", [[], [], []]))

    def test_a_text_of_a_hundred_letters(self):
        self.told(
            (["a", "aa", "aaaaaaaaaa", "b"], "a" * 100, [list(range(100)), list(range(99)), list(range(91)), []]),
            (["ab", "ba", "z"], "ab" * 50, [list(range(0, 100, 2)), list(range(1, 99, 2)), []]),
            (["xy", "y"], "x" * 99 + "y", [[98], [99]]),
        )

    def test_a_text_somewhat_beyond_a_hundred_letters_is_not_refused(self):
        self.told((["b", "ab"], "a" * 119 + "b", [[119], [118]]), (["a"], "a" * 101, [list(range(101))]))

    def test_all_short_words_in_all_short_texts(self):
        words = ["".join(signs) for size in (1, 2, 3) for signs in itertools.product("ab", repeat=size)]
        for size in range(8):
            for signs in itertools.product("ab", repeat=size):
                text = "".join(signs)
                for word in words:
                    self.assertEqual(places([word], text), [places_by_search(word, text)], (word, text))

    def test_no_two_lists_are_one(self):
        for book, text in ((["ab"] * 6, "abab"), (["x", "y", "x"], "abab"), (["a", "b", "a"], "")):
            first, second = places(book, text), places(book, text)
            lists = [first, second, book] + first + second
            self.assertEqual(len({id(each) for each in lists}), len(lists))

    def test_what_was_told_may_be_changed(self):
        book = ["ab", "ab", "x"]
        first = places(book, "abab")
        first[0].append(9)
        first[2].append(9)
        self.assertEqual(first, [[0, 2, 9], [0, 2], [9]])
        first.clear()
        self.assertEqual(places(book, "abab"), [[0, 2], [0, 2], []])

    def test_the_book_is_unchanged(self):
        for book in (["b", "ab", "b"], ["x"], ["f", "e", "d", "c", "b", "a"]):
            before = list(book)
            places(book, "abab")
            self.assertEqual(book, before)

    def test_the_book_may_be_changed_later(self):
        book = ["ab", "b"]
        first = places(book, "abb")
        book[0] = "bb"
        book.append("a")
        self.assertEqual(first, [[0], [1, 2]])
        self.assertEqual(places(book, "abb"), [[1], [1, 2], [0]])
        self.assertEqual(places(["ab", "b"], "abb"), [[0], [1, 2]])


if __name__ == "__main__":
    unittest.main()
