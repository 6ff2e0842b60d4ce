import unittest

from laidwords.greedy import greedy
from laidwords.shortest import shortest

from reckoned import BOOKS, CUT_BOOKS, FULL_BOOKS, all_books, all_words, beyond, ends_that_begin, kept_by_parts

MANY_BOOKS = BOOKS + FULL_BOOKS + CUT_BOOKS


def taken_pair(pieces):
    """All pairs by falling overlap, then by their places: the first of them."""
    rows = []
    for one in range(len(pieces)):
        for other in range(len(pieces)):
            if one != other:
                rows.append((-max(ends_that_begin(pieces[one], pieces[other]), default=0), one, other))
    return sorted(rows)[0][1:]


def steps(book):
    """The pieces at first and behind each laying."""
    pieces = [book[number] for number in kept_by_parts(book)]
    rows = [pieces]
    while len(pieces) >= 2:
        one, other = taken_pair(pieces)
        piece = pieces[one] + beyond(pieces[one], pieces[other])
        pieces = [piece if place == one else each for place, each in enumerate(pieces) if place != other]
        rows.append(pieces)
    return rows


class Greedy(unittest.TestCase):
    def told(self, *rows):
        for book, text in rows:
            with self.subTest(book=book):
                answer = greedy(book)
                self.assertEqual(answer, text)
                self.assertIs(type(answer), str)

    def test_a_book_of_one_word(self):
        self.told((["a"], "a"), (["abcdefghij"], "abcdefghij"))

    def test_books_of_which_one_word_is_kept(self):
        self.told((["ab"] * 6, "ab"), (["aa", "aa"], "aa"), (["abc", "b"], "abc"), (["b", "abc", "b", "abc"], "abc"))

    def test_the_greatest_overlap_goes_ahead(self):
        self.told(
            (["abc", "cx", "bcd"], "abcdcx"),
            (["xa", "abcd", "bcdy"], "xabcdy"),
            (["ab", "bcd", "cdb"], "abcdb"),
            (["cb", "abc", "bcab"], "cbabcab"),
        )

    def test_words_without_overlap_are_laid_in_the_order_of_the_book(self):
        self.told((["b", "a"], "ba"), (["c", "a", "b"], "cab"), (list("fdbeca"), "fdbeca"), (["ef", "cd", "ab"], "efcdab"))

    def test_of_equal_overlaps_the_first_by_places_is_taken(self):
        # All three of (0, 1), (1, 2), (2, 0) overlap by one.
        self.told((["ab", "bc", "ca"], "abca"), (["bc", "ca", "ab"], "bcab"), (["ca", "ab", "bc"], "cabc"))
        # (0, 1) and (2, 1): the one place goes ahead.
        self.told((["ab", "bc", "db"], "abcdb"), (["db", "bc", "ab"], "dbcab"))
        # (0, 1) and (0, 2): the next place goes ahead.
        self.told((["ab", "bc", "bd"], "abcbd"), (["ab", "bd", "bc"], "abdbc"))
        # (0, 2) and (1, 2), then (0, 1) and (1, 0) at once.
        self.told((["ax", "bx", "xc"], "axcbx"), (["xy", "yx"], "xyx"), (["yx", "xy"], "yxy"))

    def test_the_laid_piece_stands_in_the_place_of_the_one(self):
        # (2, 0) is taken first; what is left has no overlap, so the places tell the text.
        self.told((["cx", "zz", "abc"], "zzabcx"), (["zz", "cx", "abc"], "zzabcx"), (["abc", "zz", "cx"], "abcxzz"))
        self.told((["bb", "ya", "zz", "xb"], "yazzxbb"))

    def test_the_overlap_of_pieces_not_of_the_words_last_laid(self):
        self.assertEqual(steps(["abcd", "bcde", "dex", "yab"])[-1], ["yabcdex"])
        self.told((["abcd", "bcde", "dex", "yab"], "yabcdex"))

    def test_it_may_be_longer_than_a_shortest_text(self):
        book = ["cabab", "baba", "ababc"]
        self.told((book, "cababcbaba"))
        self.assertEqual(len(shortest(book)), 8)

    def test_full_books_of_six_words_of_ten_letters(self):
        self.told(
            (FULL_BOOKS[0], "abcdefghijklmno"),
            (FULL_BOOKS[3], "".join(letter * 10 for letter in "abcdef")),
            (FULL_BOOKS[5], "z" * 10),
        )

    def test_step_by_step(self):
        for book in MANY_BOOKS:
            self.assertEqual([greedy(book)], steps(book)[-1], book)

    def test_all_books_of_short_words_step_by_step(self):
        for size in (1, 2, 3):
            for book in all_books(all_words("ab", 3), size):
                self.assertEqual([greedy(book)], steps(book)[-1], book)
        for book in all_books(["ab", "bc", "ca", "ac", "cb"], 5):
            self.assertEqual([greedy(book)], steps(book)[-1], book)

    def test_it_holds_all_words(self):
        for book in MANY_BOOKS:
            text = greedy(book)
            self.assertTrue(all(word in text for word in book), (book, text))

    def test_it_is_no_shorter_than_a_shortest_and_no_longer_than_the_kept_words(self):
        for book in MANY_BOOKS:
            together = sum(len(book[number]) for number in kept_by_parts(book))
            self.assertLessEqual(len(shortest(book)), len(greedy(book)), book)
            self.assertLessEqual(len(greedy(book)), together, book)


if __name__ == "__main__":
    unittest.main()
