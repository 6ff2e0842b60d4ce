"""Words laid on one another: their overlap, and the text of an order."""

from laidwords.errors import BadOrder
from laidwords.words import check_book


def overlap(one, next_one):
    most = min(len(one), len(next_one)) - 1
    # From the greatest down, so that the first found is the greatest.
    for letters in range(most, 0, -1):
        if one.endswith(next_one[:letters]):
            return letters
    return 0


def beyond(last, word):
    return word[overlap(last, word):]


def check_order(book, order):
    # No number stands in an error's words: Python doesn't write out very great ones.
    if len(order) == 0:
        raise BadOrder("an order has one number at least")
    for number in order:
        if not 0 <= number < len(book):
            raise BadOrder("an order has numbers of the book alone")
    if len(set(order)) != len(order):
        raise BadOrder("an order has each number once")


def laid(book, order):
    check_book(book)
    check_order(book, order)
    last = book[order[0]]
    text = last
    for number in order[1:]:
        word = book[number]
        # The overlap is that with the last word, even where the text's own would be greater.
        text += beyond(last, word)
        last = word
    return text
