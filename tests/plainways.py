"""Writers, found plainly: all of them, of small words and texts."""

from itertools import product

from countscribe.pieces import normal
from countscribe.texts import OpenText
from helper import FAR, chances, small_words, some_word, value_at


def plain_writers(word):
    """All plain writers of a word."""
    if not word:
        return [[]]
    found = []
    for size in range(1, len(word) + 1):
        times = 1
        while word[:size] * times == word[:size * times] and size * times <= len(word):
            found.extend([[(word[:size], times)] + rest for rest in plain_writers(word[size * times:])])
            times += 1
    return found


def pair_of(writer):
    """The letters and signs of a plain writer."""
    return sum([len(part) for part, _ in writer]), len([times for _, times in writer if times > 1])


def is_as_great(one, other):
    return all([a <= b for a, b in zip(one, other)])


def plain_least(vectors):
    """Those of some vectors beside which no other one is at most as great everywhere, in order."""
    found = sorted(set(vectors))
    return [one for one in found if not any([other != one and is_as_great(other, one) for other in found])]


def vector_of(many, pieces):
    """The vector of a writer as [46] has it."""
    others = [form for _, form in pieces if form != (1,) + (0,) * many]
    zeros = [number for form in others for number in form[1:] if number]
    return sum([len(word) for word, _ in pieces]), len(others), len(zeros), len([form for form in others if form[0]])


def all_lists(many, letters, constants, numbers, signs):
    """All lists of pieces with so many letters at most and words that are not empty, with numbers up to two bounds."""
    forms = [form for form in product(range(constants + 1), *[range(numbers + 1)] * many) if any(form)]
    words = [word for word in small_words(signs, letters) if word]
    rows = [[]]
    for row in rows:
        rest = letters - sum([len(word) for word, _ in row])
        rows.extend([row + [(word, form)] for word in words if len(word) <= rest for form in forms])
    return rows


def by_text(many, lists):
    """The lists of pieces by the normal list that writes the same."""
    found = {}
    for row in lists:
        found.setdefault(repr(normal(many, row)), []).append(row)
    return found


def is_plain_lean(many, text, pieces):
    """Whether a writer of a text is lean, as [49] has it."""
    opens = [word for word, form in pieces if any(form[1:])]
    if any([not word or not any(form) for word, form in pieces]):
        return False
    single = (1,) + (0,) * many
    if any([one[1] == single and other[1] == single for one, other in zip(pieces, pieces[1:])]):
        return False
    if len(opens) != len([form for _, form in text.pieces() if any(form[1:])]):
        return False
    return not any([word[:size] * (len(word) // size) == word for word in opens for size in range(1, len(word))])


def bare_word(text):
    return "".join([word * value_at(form, [0] * text.many()) for word, form in text.pieces()])


def plain_spots(text):
    """The word, form, place and reach of each power, as [49] has it."""
    bare, found, place = bare_word(text), [], 0
    for word, form in text.pieces():
        if any(form[1:]):
            reach = place
            while reach < len(bare) and bare[reach] == word[(reach - place) % len(word)]:
                reach += 1
            found.append((word, form, place, reach))
        else:
            place += len(word)
    return found


def all_placed(text):
    """All starts and copies that [49] allows, with the writer that [49] tells for them."""
    bare, spots = bare_word(text), plain_spots(text)
    found = []
    ranges = [range(len(bare) + 2)] * len(spots) + [range(len(bare) + 1)] * len(spots)
    for numbers in product(*ranges):
        starts, copies = list(numbers[:len(spots)]), list(numbers[len(spots):])
        good = True
        for k, (word, _, place, reach) in enumerate(spots):
            end = starts[k] + copies[k] * len(word)
            good = good and place <= starts[k] and end <= reach and (k + 1 == len(spots) or end <= starts[k + 1])
        found.append((starts, copies, placed_pieces(text, bare, spots, starts, copies) if good else None))
    return found


def placed_pieces(text, bare, spots, starts, copies):
    """The writer in which the powers stand at some starts with some copies."""
    single = (1,) + (0,) * text.many()
    pieces, at = [], 0
    for (word, form, place, _), start, many in zip(spots, starts, copies):
        by = (start - place) % len(word)
        pieces.extend([(bare[at:start], single), (word[by:] + word[:by], (many,) + form[1:])])
        at = start + many * len(word)
    return [piece for piece in pieces + [(bare[at:], single)] if piece[0]]


def all_lean(text):
    """All lean writers of a text: those of all places, with each fixed piece in all its plain writers."""
    found = []
    many = text.many()
    for _, _, pieces in all_placed(text):
        rows = [[]] if pieces is not None else []
        for word, form in pieces or []:
            if any(form[1:]):
                rows = [row + [(word, form)] for row in rows]
            else:
                ways = [way for way in plain_writers(word) if not any([a[1] == b[1] == 1 for a, b in zip(way, way[1:])])]
                rows = [row + [(part, (times,) + (0,) * many) for part, times in way] for row in rows for way in ways]
        found.extend(rows)
    return found


def small_texts(chance, count, most):
    """Texts whose bare words have few letters and that have few powers."""
    found = []
    while len(found) < count:
        many, pieces = chance.randint(0, 2), []
        for _ in range(chance.randint(0, 4)):
            word = "".join([chance.choice("aab") for _ in range(chance.randint(1, 2))])
            pieces.append((word, tuple([chance.choice([0, 1, 2])] + [chance.choice([0, 0, 1, 3]) for _ in range(many)])))
        text = OpenText(many, pieces)
        if len(bare_word(text)) <= most and len(plain_spots(text)) <= 2:
            found.append(text)
    return found


def small_groups():
    """Small texts, each with all its writers, lean or not, whose letters and numbers are not above those that can count."""
    found = []
    for many, letters, constants, numbers, signs in [(1, 4, 3, 1, "ab"), (2, 3, 2, 1, "ab"), (0, 4, 4, 0, "ab"), (1, 5, 5, 1, "a")]:
        for rows in by_text(many, all_lists(many, letters, constants, numbers, signs)).values():
            text = OpenText(many, rows[0])
            most = max([max(form[1:], default=0) for _, form in text.pieces()], default=0)
            if sum([len(word) for word, _ in text.pieces()]) <= letters and len(bare_word(text)) <= constants and most <= numbers:
                found.append((text, rows))
    return found


def long_texts(size):
    """Texts with bare words of so many letters and 12 powers."""
    chance = chances(200)
    fib, ahead = "a", "b"
    while len(fib) < size:
        fib, ahead = fib + ahead, fib
    found = []
    step = size // 12
    for bare, words in [("a" * size, ["a", "b", "ab"]), (fib[:size], ["ab", "aba", "abaab"]), ("abc" * size, ["abc", "abcab", "b"]), ("ab" * size, ["ab", "abb", "a"]),
                        (some_word(chance, "ab", size, size), ["a", "b", "ab"]), (some_word(chance, "abcdefghij", size, size), ["a", "xyz", "c"])]:
        pieces = []
        for k in range(12):
            pieces.append((words[k % 3], (0, chance.randint(0, 3), 1, FAR)))
            pieces.append((bare[step * k:step * k + step] if k < 11 else bare[11 * step:size], (1, 0, 0, 0)))
        found.append(OpenText(3, pieces))
    return found
