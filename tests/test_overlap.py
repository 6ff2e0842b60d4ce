import unittest

from laidwords.laying import overlap

from reckoned import all_words, ends_that_begin


class Overlap(unittest.TestCase):
    def told(self, *rows):
        for one, next_one, letters in rows:
            with self.subTest(one=one, next_one=next_one):
                answer = overlap(one, next_one)
                self.assertEqual(answer, letters)
                self.assertIs(type(answer), int)

    def test_with_an_overlap(self):
        self.told(("abc", "bcd", 2), ("abc", "cde", 1), ("word", "order", 3), ("hello", "lowly", 2))

    def test_without_an_overlap(self):
        self.told(("abc", "def", 0), ("abc", "abd", 0), ("bcd", "acd", 0), ("a", "b", 0), ("abc", "xbc", 0))

    def test_either_way_round(self):
        self.told(("abc", "bca", 2), ("bca", "abc", 1), ("abc", "bcd", 2), ("bcd", "abc", 0))

    def test_the_greatest_of_several(self):
        self.told(("xaba", "abay", 3), ("ababa", "babab", 4), ("xaa", "aay", 2), ("cabab", "ababd", 4))

    def test_letters_in_the_middle_do_not_count(self):
        self.told(("abcx", "abcy", 0), ("xabcx", "yabcy", 0), ("abx", "yab", 0))

    def test_a_text_with_itself(self):
        self.told(("a", "a", 0), ("aa", "aa", 1), ("aaaa", "aaaa", 3), ("ab", "ab", 0),
                  ("abab", "abab", 2), ("abcab", "abcab", 2), ("ababa", "ababa", 3))

    def test_one_text_wholly_the_end_of_the_one(self):
        self.told(("abc", "c", 0), ("abc", "bc", 0), ("baa", "aa", 1), ("cbab", "bab", 1))

    def test_one_text_wholly_the_beginning_of_the_next(self):
        self.told(("a", "abc", 0), ("ab", "abc", 0), ("aa", "aab", 1), ("bab", "babc", 1))

    def test_one_text_wholly_within_the_other_the_other_way_round(self):
        self.told(("c", "abc", 0), ("bc", "abc", 0), ("aa", "baa", 0), ("abc", "a", 0), ("aba", "ab", 1))

    def test_long_texts(self):
        self.told(
            ("a" * 60, "a" * 60, 59),
            ("a" * 60, "a", 0),
            ("a", "a" * 60, 0),
            ("a" * 60, "aa", 1),
            ("ab" * 30, "ab" * 30, 58),
            ("ab" * 30, "ba" * 30, 59),
            ("abc" * 20, "abc" * 20, 57),
            ("a" * 59 + "b", "b" + "a" * 59, 1),
            ("b" + "a" * 59, "a" * 59 + "b", 59),
            ("a" * 60, "b" * 60, 0),
            ("x" * 40 + "ab" * 10, "ab" * 10 + "y" * 40, 20),
            ("x" * 30 + "abcdefghijklmnopqrstuvwxyz", "abcdefghijklmnopqrstuvwxyz" + "z" * 34, 26),
        )

    def test_texts_somewhat_beyond_sixty_letters_are_not_refused(self):
        self.told(("a" * 61, "a" * 61, 60), ("a" * 75 + "b", "b" + "c" * 80, 1), ("ab" * 40, "ab" * 40, 78))

    def test_all_short_texts(self):
        for pool in (all_words("ab", 5), all_words("abc", 3)):
            for one in pool:
                for next_one in pool:
                    wanted = max(ends_that_begin(one, next_one), default=0)
                    self.assertEqual(overlap(one, next_one), wanted, (one, next_one))


if __name__ == "__main__":
    unittest.main()
