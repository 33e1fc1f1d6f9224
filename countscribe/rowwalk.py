"""How a normal list of pieces is found from its number in the row, and the number from the list.

What can follow depends on the last piece alone, which is None ahead of the first one.
"""

from countscribe.piecetools import fixed_piece, is_power
from countscribe.rows import weight_of
from countscribe.wordtools import follows, root_size

LETTERS = "abcdefghijklmnopqrstuvwxyz"


def row_number(counts, listed):
    """How many normal lists stand ahead of one; the counts have to reach up to its weight."""
    rest = weight_of(listed)
    number = sum(counts.free[:rest])
    last = None
    for piece in listed:
        number += pieces_before(counts, last, piece, rest)
        rest -= weight_of([piece])
        last = piece
    return number


def listed_by_number(counts, rest, number):
    """The normal list of a weight that has a number among all of this weight."""
    listed = []
    last = None
    while rest:
        word, number = word_by_number(counts, last, rest, number)
        powers = powers_at(counts, last, word, rest)
        if number < powers:
            form, number = form_by_number(counts, len(word), rest - len(word), number)
            last = (word, form)
        else:
            last = fixed_piece(word, counts.unknowns)
            number -= powers
        listed.append(last)
        rest -= weight_of([last])
    return listed


def may_be_fixed(last):
    """Whether a fixed piece may stand behind a piece."""
    return last is None or is_power(last)


def may_be_power(last, word):
    """Whether a power with a word may stand behind a piece."""
    if root_size(word) < len(word):
        return False
    if last is None:
        return True
    return word != last[0] if is_power(last) else word[-1] != last[0][-1]


def powers_at(counts, last, word, rest):
    """How many ways there are to go on behind a piece with a power of a word."""
    return counts.starts[rest][len(word)] if may_be_power(last, word) else 0


def ways_at(counts, last, word, rest):
    """How many ways there are to go on behind a piece with a word."""
    fixed = counts.fixed[rest - len(word)] if may_be_fixed(last) else 0
    return powers_at(counts, last, word, rest) + fixed


def ways_with(counts, last, start, rest):
    """How many ways there are to go on behind a piece with a word that begins with some letters."""
    powers = power_words(counts, last, start, rest)
    sizes = range(len(start), rest + 1)
    total = sum([powers[size] * counts.starts[rest][size] for size in sizes])
    if may_be_fixed(last):
        total += sum([counts.words[size - len(start)] * counts.fixed[rest - size] for size in sizes])
    return total


def power_words(counts, last, start, most):
    """For each size, from that of the start on, how many words that begin with it may be a power's behind a piece."""
    barred = "" if may_be_fixed(last) else last[0][-1]
    found = [0] + [endless_words(counts, start, size, barred) for size in range(1, most + 1)]
    # A word that is a shorter one taken several times is counted with that one.
    for size in range(1, most + 1):
        for more in range(2 * size, most + 1, size):
            found[more] -= found[size]
    if last is not None and is_power(last) and last[0].startswith(start) and len(last[0]) <= most:
        found[len(last[0])] -= 1
    return found


def endless_words(counts, start, size, barred):
    """How many words of a size begin with some letters if they are taken without end, and do not end with a letter."""
    free = size - len(start)
    if free > 0:
        return counts.words[free] - (counts.words[free - 1] if barred else 0)
    return 1 if follows(start[:size], start) == len(start) and start[size - 1] != barred else 0


def pieces_before(counts, last, piece, rest):
    """How many ways there are to go on behind a piece with a piece that comes in order before another one."""
    word, form = piece
    total = 0
    for size in range(len(word)):
        if size:
            total += ways_at(counts, last, word[:size], rest)
        for letter in LETTERS[:LETTERS.index(word[size])]:
            total += ways_with(counts, last, word[:size] + letter, rest)
    if is_power(piece):
        return total + forms_before(counts, len(word), form, rest - len(word))
    return total + powers_at(counts, last, word, rest)


def word_by_number(counts, last, rest, number):
    """The word of the next piece in the way with a number, and the number of the way among those with this word."""
    word = ""
    while True:
        if word:
            ways = ways_at(counts, last, word, rest)
            if number < ways:
                return word, number
            number -= ways
        for letter in LETTERS:
            ways = ways_with(counts, last, word + letter, rest)
            if number < ways:
                word = word + letter
                break
            number -= ways


def least_of_digits(digits):
    """The least number of so many binary digits, where 0 has none."""
    return (1 << digits) >> 1


def forms_before(counts, size, form, rest):
    """How many ways there are to go on with a power of one word and a form that comes in order before another one."""
    total = 0
    is_open = False
    for at, number in enumerate(form[1:], start=1):
        for digits in range(number.bit_length() + 1):
            low = least_of_digits(digits)
            values = min(number, 1 << digits) - low
            if values > 0:
                total += values * counts.many_forms(size, rest - digits, counts.unknowns - at, is_open or digits > 0)
        rest -= number.bit_length()
        is_open = is_open or number > 0
    return total


def form_by_number(counts, size, rest, number):
    """The form of a power of one word in the way with a number, and the number among those with this form."""
    form = (0,)
    is_open = False
    for left in range(counts.unknowns - 1, -1, -1):
        digits = 0
        while True:
            low = least_of_digits(digits)
            each = counts.many_forms(size, rest - digits, left, is_open or digits > 0)
            values = (1 << digits) - low
            if number < each * values:
                break
            number -= each * values
            digits += 1
        form = form + (low + number // each,)
        number = number % each
        rest -= digits
        is_open = is_open or digits > 0
    return form, number
