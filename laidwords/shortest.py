"""Heights of standings, and the shortest texts that hold all words of a book."""

from laidwords.laying import beyond
from laidwords.words import kept


def choices(numbers):
    found = [()]
    for number in numbers:
        found = found + [chosen + (number,) for chosen in found]
    return found


def still_left(numbers, standing):
    return [number for number in numbers if number not in standing[0]]


def standing_alone(number):
    return ((number,), number)


def standing_after(standing, number):
    return (tuple(sorted(standing[0] + (number,))), number)


def put_behind(book, standing, number):
    return beyond(book[standing[1]], book[number])


def height_of(book, numbers, standing, known):
    ways = []
    for number in still_left(numbers, standing):
        ways.append(len(put_behind(book, standing, number)) + known[standing_after(standing, number)])
    return min(ways, default=0)


def known_heights(book, numbers):
    known = {}
    # A height rests on those where one word more is laid, so the fullest go ahead.
    for chosen in sorted(choices(numbers), key=len, reverse=True):
        for last in chosen:
            standing = (chosen, last)
            known[standing] = height_of(book, numbers, standing, known)
    return known


def heights(book):
    return sorted(known_heights(book, kept(book)).items())


def texts_from(book, known, text, standing, left):
    if len(left) == 0:
        return [text]
    found = []
    for number in left:
        behind = put_behind(book, standing, number)
        after = standing_after(standing, number)
        # A word that lowers the height by less than it takes leads to no shortest text.
        if len(behind) + known[after] == known[standing]:
            found.extend(texts_from(book, known, text + behind, after, still_left(left, after)))
    return found


def all_shortest(book):
    numbers = kept(book)
    known = known_heights(book, numbers)
    fewest = min([len(book[number]) + known[standing_alone(number)] for number in numbers])
    found = []
    for number in numbers:
        alone = standing_alone(number)
        if len(book[number]) + known[alone] == fewest:
            found.extend(texts_from(book, known, book[number], alone, still_left(numbers, alone)))
    # Two orders may give one text.
    return sorted(set(found))


def shortest(book):
    return all_shortest(book)[0]
