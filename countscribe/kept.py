"""Kept words: texts of any length, kept as words with the numbers of times that they are taken."""

from countscribe.checks import MOST_LETTERS, is_count, is_lettered, need_within
from countscribe.errors import InvalidKept, InvalidPiece, InvalidPieces, TooLong
from countscribe.wordtools import turned_word

MOST_KEPT_PIECES = 5000
MOST_KEPT_WORD = 2000
MOST_KEPT_LETTERS = 10000


def is_kept_piece(value):
    """Whether a value is a tuple of a word and the number of times that it is taken."""
    if not isinstance(value, tuple) or len(value) != 2:
        return False
    return is_lettered(value[0], MOST_KEPT_WORD) and is_count(value[1])


def need_kept_pieces(value):
    """Refuse what is no list of pieces of a kept word, or one of too many letters."""
    if not isinstance(value, list) or len(value) > MOST_KEPT_PIECES:
        raise InvalidPieces(value)
    for item in value:
        if not is_kept_piece(item):
            raise InvalidPiece(item)
    many = sum([len(word) for word, _ in value])
    if many > MOST_KEPT_LETTERS:
        raise TooLong(many)


def put_together(pieces):
    """The pieces that write something, with neighbours of the same word made one."""
    ready = []
    for word, times in pieces:
        if not word or not times:
            continue
        if ready and ready[-1][0] == word:
            times += ready.pop()[1]
        ready.append((word, times))
    return ready


def ends_of(pieces):
    """For each piece how many letters are written up to its end."""
    ends = []
    total = 0
    for word, times in pieces:
        total += len(word) * times
        ends.append(total)
    return ends


def stretch_pieces(word, low, high):
    """The pieces that write the letters, from `low` on and below `high`, of a word taken many times."""
    front = turned_word(word, low)
    return [(front, (high - low) // len(word)), (front[:(high - low) % len(word)], 1)]


class KeptWord:
    """A text of letters of any length, which is never written out."""

    def __init__(self, pieces):
        need_kept_pieces(pieces)
        self._pieces = put_together(pieces)
        self._ends = ends_of(self._pieces)

    def pieces(self):
        """The words with their numbers of times, without those that write nothing."""
        return list(self._pieces)

    def length(self):
        """How many letters are written."""
        return self._ends[-1] if self._ends else 0

    def letter(self, at):
        """The letter at a place."""
        need_within(at, 0, self.length() - 1)
        index = piece_index(self._ends, at)
        word, times = self._pieces[index]
        return word[(at - self._ends[index] + len(word) * times) % len(word)]

    def part(self, low, high):
        """The kept word of the letters from `low` on that are below `high`."""
        need_within(low, 0, self.length())
        need_within(high, low, self.length())
        return kept_of(stretch_of(self._pieces, self._ends, low, high))

    def plain(self):
        """The word that is written, where it is not too long."""
        if self.length() > MOST_LETTERS:
            raise TooLong(self.length())
        return "".join([word * times for word, times in self._pieces])


def piece_index(ends, at):
    """The index of the piece that writes the letter at a place."""
    low, high = 0, len(ends) - 1
    while low < high:
        middle = (low + high) // 2
        if ends[middle] > at:
            high = middle
        else:
            low = middle + 1
    return low


def stretch_of(pieces, ends, low, high):
    """The pieces that write the letters from `low` on that are below `high`."""
    found = []
    for (word, times), end in zip(pieces, ends):
        start = end - len(word) * times
        if start < high and low < end:
            found.extend(stretch_pieces(word, max(low - start, 0), min(high, end) - start))
    return found


def kept_of(pieces):
    """The kept word of such pieces, which may be more than a caller may hand in."""
    made = KeptWord([])
    made._pieces = put_together(pieces)
    made._ends = ends_of(made._pieces)
    return made


def need_kept(value):
    """Refuse what is no kept word."""
    if not isinstance(value, KeptWord):
        raise InvalidKept(value)


def joined_kept(one, other):
    """The kept word that writes what `one` and, behind it, what `other` writes."""
    need_kept(one)
    need_kept(other)
    return kept_of(one.pieces() + other.pieces())


def mirrored_kept(kept):
    """The kept word that writes the letters in the opposite order."""
    need_kept(kept)
    return kept_of([(word[::-1], times) for word, times in reversed(kept.pieces())])
