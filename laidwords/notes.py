"""Books written as texts, and read from them."""

from laidwords.errors import BadNote
from laidwords.words import check_book, is_book

LINE_END = "\n"


def shown(book):
    check_book(book)
    return "".join([word + LINE_END for word in book])


def read(text):
    # Not splitlines: it ends lines at other signs too, and takes a last line without an end.
    lines = text.split(LINE_END)
    book = lines[:-1]
    if lines[-1] != "" or not is_book(book):
        raise BadNote("a book is written as its words, each with a line end behind it")
    return book
