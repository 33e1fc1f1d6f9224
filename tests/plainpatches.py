"""Patches, found plainly: what splices do to a written word."""

from countscribe.texts import OpenText
from helper import some_text, value_at, word_at
from plainplaces import is_at_most, plain_places


def at_point(splices, point):
    """Splices of a text as splices of the word that is written at a point."""
    return [(value_at(start, point), value_at(end, point), word_at(given.pieces(), point)) for start, end, given in splices]


def effect(size, splices):
    """The words and the numbers of the letters that are kept, in turn, when a word of a size is spliced."""
    row, low, put = [], 0, ""
    for start, end, word in splices:
        for letter in range(low, start):
            row.extend([put, letter])
            put = ""
        put += word
        low = end
    for letter in range(low, size):
        row.extend([put, letter])
        put = ""
    return row + [put]


def spliced_word(word, splices):
    """A word with splices done."""
    return "".join([word[item] if isinstance(item, int) else item for item in effect(len(word), splices)])


def effect_of_both(size, first, second):
    """The effect of splices of a word, and then of splices of the word that results."""
    letters = []
    for item in effect(size, first):
        letters.extend([item] if isinstance(item, int) else list(item))
    row, put = [], ""
    for item in effect(len(letters), second):
        if isinstance(item, str):
            put += item
        elif isinstance(letters[item], int):
            row.extend([put, letters[item]])
            put = ""
        else:
            put += letters[item]
    return row + [put]


def is_ahead(one, other):
    return is_at_most(one[1], other[0])


def clash_of(one, other):
    """The first two splices that are in each other's way, None if there are none."""
    for own in one:
        for its in other:
            if not is_ahead(own, its) and not is_ahead(its, own):
                return own, its
    return None


def all_merged(one, other):
    """The splices of two lists that do not clash, in order; those of the first list go first where both put."""
    rows = [(own, 0) for own in one] + [(its, 1) for its in other]

    def compared(left, right):
        if left[1] == right[1]:
            return 0
        if is_ahead(left[0], right[0]) and is_ahead(right[0], left[0]):
            return left[1] - right[1]
        return -1 if is_ahead(left[0], right[0]) else 1

    done = []
    while rows:
        for row in rows:
            same = [other for other in rows if other[1] == row[1]]
            if same[0] is row and all([compared(row, other) <= 0 for other in rows]):
                done.append(row[0])
                rows.remove(row)
                break
    return done


def some_splices(chance, text, most, letters="abc"):
    """Some splices of a text, in order."""
    places = plain_places(text)
    found, last = [], places[0]
    for _ in range(chance.choice([0] + list(range(1, most + 1)) * 3)):
        pair = []
        for _ in range(2):
            behind = [place for place in places if is_at_most(last, place)]
            last = behind[min(chance.randrange(len(behind)), chance.randrange(len(behind)))]
            pair.append(last)
        start, end = pair
        last = end if chance.random() < 0.8 else start
        found.append((start, last, some_text(chance, text.many(), chance.choice([0, 1, 1, 2]), letters)))
    return found


def some_base(chance):
    """A text with many open places."""
    many = chance.choice([0, 1, 1, 2, 2, 3])
    pieces = []
    for _ in range(chance.randint(1, 3)):
        pieces.append((chance.choice(["a", "a", "a", "ab", "b"]), (chance.choice([0, 0, 1, 3]),) + tuple([chance.choice([0, 1, 2]) for _ in range(many)])))
    return OpenText(many, pieces)
