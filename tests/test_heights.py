import itertools
import unittest

from laidwords.shortest import heights, shortest

from reckoned import BOOKS, CUT_BOOKS, FULL_BOOKS, all_books, all_words, beyond, kept_by_parts


def standings_by_choice(book):
    numbers = kept_by_parts(book)
    found = []
    for size in range(1, len(numbers) + 1):
        for chosen in itertools.combinations(numbers, size):
            found.extend((chosen, last) for last in chosen)
    return sorted(found)


def put_behind(book, last, order):
    """The letters that the words of an order put behind a text that ends in a laid word."""
    letters = 0
    for number in order:
        letters += len(beyond(book[last], book[number]))
        last = number
    return letters


def height_of_all_orders(book, standing):
    chosen, last = standing
    left = [number for number in kept_by_parts(book) if number not in chosen]
    return min(put_behind(book, last, order) for order in itertools.permutations(left))


def reckoned_heights(book):
    return [(standing, height_of_all_orders(book, standing)) for standing in standings_by_choice(book)]


class Heights(unittest.TestCase):
    def check(self, book):
        self.assertEqual(heights(list(book)), reckoned_heights(book), book)

    def test_a_book_of_one_word(self):
        self.assertEqual(heights(["a"]), [(((0,), 0), 0)])
        self.assertEqual(heights(["abcdefghij"]), [(((0,), 0), 0)])

    def test_a_book_of_two_words(self):
        self.assertEqual(heights(["abc", "bcd"]), [(((0,), 0), 1), (((0, 1), 0), 0), (((0, 1), 1), 0), (((1,), 1), 3)])

    def test_a_book_with_held_words_and_words_alike(self):
        self.assertEqual(heights(["abc", "b", "bcd", "cde", "abc"]), [
            (((0,), 0), 2), (((0, 2), 0), 2), (((0, 2), 2), 1),
            (((0, 2, 3), 0), 0), (((0, 2, 3), 2), 0), (((0, 2, 3), 3), 0),
            (((0, 3), 0), 1), (((0, 3), 3), 3),
            (((2,), 2), 4), (((2, 3), 2), 3), (((2, 3), 3), 3), (((3,), 3), 4),
        ])

    def test_only_one_word_is_kept(self):
        self.assertEqual(heights(["ab"] * 6), [(((0,), 0), 0)])
        self.assertEqual(heights(["b", "a", "ab", "ab"]), [(((2,), 2), 0)])
        self.assertEqual(heights(["a", "b", "c", "d", "e", "abcde"]), [(((5,), 5), 0)])

    def test_where_laying_the_nearest_word_next_is_not_best(self):
        # From 0 the greatest overlap is with 2, but 1 is to be laid between.
        self.assertEqual(dict(heights(["cabab", "baba", "ababc"]))[((0,), 0)], 3)
        self.assertEqual(beyond("cabab", "ababc"), "c")

    def test_chosen_books(self):
        for book in BOOKS:
            self.check(book)

    def test_full_books_of_six_words_of_ten_letters(self):
        for book in FULL_BOOKS:
            self.check(book)
        self.assertEqual(len(heights(FULL_BOOKS[0])), 192)
        self.assertEqual(heights(FULL_BOOKS[3])[0], (((0,), 0), 50))

    def test_books_cut_out_of_texts(self):
        for book in CUT_BOOKS:
            self.check(book)

    def test_all_books_of_short_words(self):
        for size in (1, 2, 3):
            for book in all_books(all_words("ab", 2), size):
                self.check(book)
        for book in all_books(["a", "ab", "ba", "bab"], 5):
            self.check(book)

    def test_kinds(self):
        for book in (BOOKS[6], FULL_BOOKS[0], ["a"]):
            told = heights(book)
            self.assertIs(type(told), list)
            for row in told:
                self.assertEqual([type(row), type(row[0]), type(row[0][0])], [tuple, tuple, tuple])
                self.assertEqual([len(row), len(row[0])], [2, 2])
                for number in row[0][0] + (row[0][1], row[1]):
                    self.assertIs(type(number), int)

    def test_the_standings_rise_each_once(self):
        for book in BOOKS + FULL_BOOKS:
            standings = [standing for standing, height in heights(book)]
            self.assertTrue(all(one < other for one, other in zip(standings, standings[1:])), book)

    def test_numbers_are_those_of_the_book(self):
        standings = [standing for standing, height in heights(["b", "ab", "ab", "bc"])]
        self.assertEqual(standings, [((1,), 1), ((1, 3), 1), ((1, 3), 3), ((3,), 3)])


class HeightsTogether(unittest.TestCase):
    def test_nought_just_where_all_are_laid(self):
        for book in BOOKS + FULL_BOOKS + CUT_BOOKS:
            everything = tuple(kept_by_parts(book))
            for (chosen, last), height in heights(book):
                self.assertEqual(height == 0, chosen == everything, book)
                self.assertGreaterEqual(height, 0)

    def test_no_laying_lowers_the_height_by_more_than_it_takes(self):
        for book in BOOKS + FULL_BOOKS + CUT_BOOKS:
            known = dict(heights(book))
            for (chosen, last), height in known.items():
                ways = [0] if chosen == tuple(kept_by_parts(book)) else []
                for number in kept_by_parts(book):
                    if number not in chosen:
                        after = (tuple(sorted(chosen + (number,))), number)
                        ways.append(len(beyond(book[last], book[number])) + known[after])
                self.assertTrue(all(height <= way for way in ways), book)
                # Some laying lowers it by all that it takes.
                self.assertIn(height, ways, book)

    def test_a_shortest_text_has_as_many_letters_as_a_word_and_its_height(self):
        for book in BOOKS + FULL_BOOKS + CUT_BOOKS:
            known = dict(heights(book))
            ways = [len(book[number]) + known[((number,), number)] for number in kept_by_parts(book)]
            self.assertEqual(len(shortest(book)), min(ways), book)


if __name__ == "__main__":
    unittest.main()
