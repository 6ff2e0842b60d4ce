import copy
import unittest

from laidwords.errors import LayError
from laidwords.greedy import greedy
from laidwords.laying import laid, overlap
from laidwords.notes import read, shown
from laidwords.shortest import all_shortest, heights, shortest
from laidwords.words import kept, places

from reckoned import BOOKS, FULL_BOOKS

# Every call, made with a book, and with all else that it takes made out of the book.
CALLS = {
    "kept": lambda book: kept(book),
    "places": lambda book: places(book, "".join(book)),
    "overlap": lambda book: overlap(book[0], book[-1]),
    "laid": lambda book: laid(book, list(range(len(book)))),
    "heights": lambda book: heights(book),
    "shortest": lambda book: shortest(book),
    "all_shortest": lambda book: all_shortest(book),
    "greedy": lambda book: greedy(book),
    "shown": lambda book: shown(book),
    "read": lambda book: read("".join(word + "\n" for word in book)),
}


def lists_within(value):
    """All lists that a value is or holds."""
    found = [value] if isinstance(value, list) else []
    if isinstance(value, (list, tuple)):
        for each in value:
            found.extend(lists_within(each))
    return found


def spoil(value):
    for each in lists_within(value):
        each.reverse()
        each.append("spoiled")
        each[0] = None


class AskersOwn(unittest.TestCase):
    """Nothing handed in is changed or kept; what is told is the asker's own."""

    def for_each_call(self, check):
        for name, call in CALLS.items():
            for book in BOOKS + FULL_BOOKS:
                with self.subTest(call=name, book=book):
                    check(call, list(book))

    def test_what_was_handed_in_stands_as_it_was(self):
        def check(call, book):
            before = list(book)
            call(book)
            self.assertEqual(book, before)
        self.for_each_call(check)

    def test_the_same_is_told_again(self):
        def check(call, book):
            self.assertEqual(call(book), call(list(book)))
        self.for_each_call(check)

    def test_changing_what_was_told_changes_no_later_answer(self):
        def check(call, book):
            before = list(book)
            told = call(book)
            wanted = copy.deepcopy(told)
            spoil(told)
            self.assertEqual(book, before)
            self.assertEqual(call(book), wanted)
            self.assertEqual(call(before), wanted)
        self.for_each_call(check)

    def test_changing_what_was_handed_in_changes_no_answer(self):
        def check(call, book):
            before = list(book)
            told = call(book)
            wanted = copy.deepcopy(told)
            book[0] = "qqq"
            book.reverse()
            self.assertEqual(told, wanted)
            self.assertEqual(call(book), call(list(book)))
            self.assertEqual(call(before), wanted)
        self.for_each_call(check)

    def test_no_two_lists_are_one(self):
        def check(call, book):
            lists = lists_within([call(book), call(book), book])
            self.assertEqual(len({id(each) for each in lists}), len(lists))
        self.for_each_call(check)

    def test_an_answer_of_one_book_does_not_hang_on_another(self):
        def check(call, book):
            wanted = call(book)
            call(["other", "words", "here"])
            self.assertEqual(call(book), wanted)
        self.for_each_call(check)

    def test_a_refused_call_leaves_no_trace(self):
        def check(call, book):
            wanted = call(book)
            for bad in (["a"] * 7, ["A"], book + ["a b"]):
                before = list(bad)
                try:
                    call(bad)
                except LayError:
                    pass
                self.assertEqual(bad, before)
            self.assertEqual(call(book), wanted)
        self.for_each_call(check)

    def test_the_order_that_was_handed_in_stands_as_it_was(self):
        order = [2, 0, 1]
        self.assertEqual(laid(["bc", "cd", "ab"], order), "abcd")
        self.assertEqual(order, [2, 0, 1])


if __name__ == "__main__":
    unittest.main()
