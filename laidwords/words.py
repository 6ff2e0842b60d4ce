"""Words and books, the kept words of a book, and the places of words in a text."""

from laidwords.errors import BadBook, BadWord

MOST_WORDS = 6
MOST_LETTERS = 10


def is_small_letter(sign):
    # Not islower: it takes letters beyond a to z too.
    return "a" <= sign <= "z"


def is_word(text):
    if not 1 <= len(text) <= MOST_LETTERS:
        return False
    return all([is_small_letter(sign) for sign in text])


def has_book_size(book):
    return 1 <= len(book) <= MOST_WORDS


def is_book(book):
    return has_book_size(book) and all([is_word(word) for word in book])


def check_book(book):
    # BadBook goes ahead of BadWord, so the words are counted before any is looked at.
    if not has_book_size(book):
        raise BadBook(f"a book has 1 to {MOST_WORDS} words")
    for word in book:
        if not is_word(word):
            raise BadWord(f"a word has 1 to {MOST_LETTERS} small letters from a to z")


def has_like_ahead(book, number):
    return book[number] in book[:number]


def is_held(book, number):
    word = book[number]
    return any([word != other and word in other for other in book])


def needs_place(book, number):
    return not has_like_ahead(book, number) and not is_held(book, number)


def kept(book):
    check_book(book)
    return [number for number in range(len(book)) if needs_place(book, number)]


def places_of_word(word, text):
    # Each place is tried, as a word's places may run into one another.
    return [place for place in range(len(text)) if text.startswith(word, place)]


def places(book, text):
    check_book(book)
    return [places_of_word(word, text) for word in book]
