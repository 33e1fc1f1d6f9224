"""What two kept words have in common, where a word stands in one, its root and its turns."""

from countscribe.checks import need_some_word, need_within
from countscribe.errors import InvalidKept
from countscribe.kept import joined_kept, need_kept
from countscribe.keptwalk import alike_from, is_before, standing_groups, turn_places


def agree(one, other):
    """How many letters two kept words have in common at their beginnings."""
    need_kept(one)
    need_kept(other)
    return alike_from(one.pieces(), 0, other.pieces(), 0)


def compare(one, other):
    """-1 if what `one` writes comes first in order, 0 if both write the same, and 1 otherwise."""
    same = agree(one, other)
    if same == one.length() or same == other.length():
        return (one.length() > same) - (other.length() > same)
    return -1 if one.letter(same) < other.letter(same) else 1


def same_kept(one, other):
    """Whether two kept words write the same."""
    return compare(one, other) == 0


def many_places(part, kept):
    """At how many places of what is written a word begins."""
    need_some_word(part)
    need_kept(kept)
    return many_standing(standing_groups(part, kept.pieces()))


def many_standing(groups):
    """How many places such groups stand for."""
    return sum([times * len(places) for _, _, times, places in groups])


def kept_place(part, kept, number):
    """The place with a number of those at which a word begins."""
    need_some_word(part)
    need_kept(kept)
    groups = standing_groups(part, kept.pieces())
    need_within(number, 0, many_standing(groups) - 1)
    return standing_place(groups, number)


def standing_place(groups, number):
    """The place with a number below how many places such groups stand for."""
    at = 0
    while number >= many_standing([groups[at]]):
        number -= many_standing([groups[at]])
        at += 1
    start, step, _, places = groups[at]
    return start + step * (number // len(places)) + places[number % len(places)]


def kept_root(kept):
    """The shortest kept word of which `kept` is a multiple, and how many times it stands there."""
    need_kept(kept)
    if not kept.length():
        raise InvalidKept(kept)
    times = most_times(kept.pieces(), kept.length())
    return kept.part(0, kept.length() // times), times


def most_times(pieces, size):
    """The greatest number of times that one and the same text is written, for some letters at least."""
    longest = max([len(word) for word, _ in pieces])
    for step in range(1, longest + 1):
        if is_repeated(pieces, size, step):
            return size // step
    for times in range(2 * len(pieces) - 1, 1, -1):
        if size % times == 0 and is_repeated(pieces, size, size // times):
            return times
    return 1


def is_repeated(pieces, size, step):
    """Whether the first letters, so many, are written again and again until the end."""
    return size % step == 0 and alike_from(pieces, step, pieces, 0) == size - step


def turned_kept(kept, by):
    """The kept word with its first letters, `by` of them, put behind the others."""
    need_kept(kept)
    need_within(by, 0, kept.length())
    return joined_kept(kept.part(by, kept.length()), kept.part(0, by))


def least_kept_turn(kept):
    """The first turn in order, behind the least number of letters that gives it."""
    need_kept(kept)
    pieces, size = kept.pieces(), kept.length()
    twice = pieces + pieces
    best = 0
    for by in turn_places(pieces):
        if is_before(twice, by, best, size):
            best = by
    return best, turned_kept(kept, best)


def is_turn_of(one, other):
    """Whether `other` writes a turn of what `one` writes."""
    need_kept(one)
    need_kept(other)
    if one.length() != other.length():
        return False
    return same_kept(least_kept_turn(one)[1], least_kept_turn(other)[1])
