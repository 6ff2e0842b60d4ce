"""What the document asks for, reckoned the long way, and books to reckon it for."""

import itertools


def parts(word):
    return {word[begin:end] for begin in range(len(word)) for end in range(begin + 1, len(word) + 1)}


def kept_by_parts(book):
    """The kept words, told by the parts of each word rather than by a search."""
    first = {}
    for number, word in enumerate(book):
        first.setdefault(word, number)
    held = set()
    for word in first:
        held |= parts(word) - {word}
    return sorted(number for word, number in first.items() if word not in held)


def ends_that_begin(one, next_one):
    """The numbers of letters that fit, told letter by letter."""
    found = []
    for size in range(1, min(len(one), len(next_one))):
        if all(one[len(one) - size + k] == next_one[k] for k in range(size)):
            found.append(size)
    return found


def beyond(last, word):
    """What a word has beyond its overlap with the word laid ahead of it."""
    for begin in range(1, len(last)):
        end = last[begin:]
        if len(end) < len(word) and word.startswith(end):
            return word[len(end):]
    return word


def laid_by_pairs(book, order):
    words = [book[number] for number in order]
    return words[0] + "".join(beyond(last, word) for last, word in zip(words, words[1:]))


def texts_of_all_orders(book):
    return [laid_by_pairs(book, order) for order in itertools.permutations(kept_by_parts(book))]


def shortest_of_all_orders(book):
    texts = set(texts_of_all_orders(book))
    fewest = min(len(text) for text in texts)
    return sorted(text for text in texts if len(text) == fewest)


def shortest_of_all_texts(book):
    """All texts are gone through, from the empty one up, till some hold all words."""
    letters = sorted(set("".join(book)))
    for size in itertools.count():
        texts = ["".join(signs) for signs in itertools.product(letters, repeat=size)]
        found = [text for text in texts if all(word in text for word in book)]
        if found:
            return found


def all_words(letters, most):
    return ["".join(signs) for size in range(1, most + 1) for signs in itertools.product(letters, repeat=size)]


def all_books(words, size):
    return [list(book) for book in itertools.product(words, repeat=size)]


def folded_text(one, other, folds):
    """A text of the two that is put behind itself with the two changed, again and again."""
    text, changed = one, other
    for fold in range(folds):
        text, changed = text + changed, changed + text
    return text


def cut_books(text, words, least, most):
    """Books cut out of a text, so that many words overlap, are held, or are alike."""
    books = []
    for start in range(len(text)):
        book = []
        for k in range(words):
            size = least + (start * 5 + k * k * 3) % (most - least + 1)
            begin = (start * 11 + k * (start + 7)) % (len(text) - size)
            book.append(text[begin:begin + size])
        books.append(book)
    return books


# Books of 6 words of 10 letters: all kept and much, little or not overlapping, and words alike.
FULL_BOOKS = [
    ["abcdefghij", "bcdefghijk", "cdefghijkl", "defghijklm", "efghijklmn", "fghijklmno"],
    ["jihgfedcba", "abcdefghij", "ijabcdefgh", "hijabcdefg", "baabcdefgh", "cbaabcdefg"],
    ["aaaaaaaaab", "aaaaaaaabb", "baaaaaaaaa", "bbaaaaaaaa", "ababababab", "bababababa"],
    ["aaaaaaaaaa", "bbbbbbbbbb", "cccccccccc", "dddddddddd", "eeeeeeeeee", "ffffffffff"],
    ["zyxwvutsrq", "qponmlkjih", "hgfedcbazy", "zyxwvutsrq", "qponmlkjih", "rqponmlkji"],
    ["zzzzzzzzzz"] * 6,
]

# Words alike, held words, words held by some that are not kept, and none such.
BOOKS = [
    ["a"],
    ["abcdefghij"],
    ["ab", "ab"],
    ["b", "a"],
    ["abc", "b"],
    ["b", "abc", "b", "abc"],
    ["abc", "b", "bcd", "cde", "abc"],
    ["b", "ab", "abc", "ca"],
    ["ab", "bc", "ca"],
    ["cabab", "baba", "ababc"],
    ["xa", "ba", "by", "ab"],
    ["ab", "bc", "cd", "de", "ef", "fa"],
    ["fa", "ef", "de", "cd", "bc", "ab"],
    ["a", "b", "c", "d", "e", "f"],
    ["a", "b", "c", "d", "e", "abcde"],
    ["ab", "ba", "aab", "b", "bba", "abba"],
    ["z", "az", "zaz", "y", "yz", "zy"],
]

CUT_BOOKS = (
    cut_books(folded_text("a", "b", 6), 6, 1, 6)
    + cut_books(folded_text("a", "b", 6), 6, 4, 5)
    + cut_books(folded_text("ab", "ca", 4), 5, 2, 4)
    + cut_books(folded_text("ab", "c", 5), 6, 5, 10)
    + cut_books(folded_text("abc", "bad", 4), 6, 9, 10)
)
