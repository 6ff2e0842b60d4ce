"""The greedy text of a book."""

from laidwords.laying import beyond, overlap
from laidwords.words import kept


def first_greatest_pair(pieces):
    best = (0, 1)
    most = overlap(pieces[0], pieces[1])
    for one in range(len(pieces)):
        for other in range(len(pieces)):
            letters = overlap(pieces[one], pieces[other])
            # Only a greater overlap is taken, so that of pairs with the same one the first stays.
            if one != other and letters > most:
                best = (one, other)
                most = letters
    return best


def with_pair_laid(pieces, pair):
    laid_pieces = list(pieces)
    laid_pieces[pair[0]] = pieces[pair[0]] + beyond(pieces[pair[0]], pieces[pair[1]])
    laid_pieces.pop(pair[1])
    return laid_pieces


def greedy(book):
    pieces = [book[number] for number in kept(book)]
    while len(pieces) > 1:
        pieces = with_pair_laid(pieces, first_greatest_pair(pieces))
    return pieces[0]
