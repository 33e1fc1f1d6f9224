"""Ways along kept words, piece by piece, without any check of what is handed in."""

from countscribe.wordtools import alike_ahead, standing_places, stretch


def sizes_of(pieces):
    """For each piece how many letters it writes."""
    return [len(word) * times for word, times in pieces]


def place_within(sizes, at):
    """The index of the piece that writes the letter at a place, and how many of its letters are left from there."""
    for index, size in enumerate(sizes):
        if at < size:
            return index, size - at
        at -= size
    return len(sizes), 0


def alike_from(one, one_at, other, other_at):
    """How many letters two lists of pieces have in common, each from a place on."""
    one_sizes, other_sizes = sizes_of(one), sizes_of(other)
    left, one_rest = place_within(one_sizes, one_at)
    right, other_rest = place_within(other_sizes, other_at)
    total = 0
    while left < len(one) and right < len(other):
        size = min(one_rest, other_rest)
        # Two words taken without end that agree for as many letters as both have agree for ever.
        look = min(size, len(one[left][0]) + len(other[right][0]))
        same = alike_ahead(stretch(one[left][0], -one_rest, look), stretch(other[right][0], -other_rest, look))
        if same < look:
            return total + same
        total += size
        one_rest -= size
        other_rest -= size
        if not one_rest:
            left += 1
            one_rest = one_sizes[left] if left < len(one) else 0
        if not other_rest:
            right += 1
            other_rest = other_sizes[right] if right < len(other) else 0
    return total


def is_before(pieces, one_at, other_at, size):
    """Whether the letters from one place on come before those from another place on, so many of each."""
    same = alike_from(pieces, one_at, pieces, other_at)
    return same < size and letter_at(pieces, one_at + same) < letter_at(pieces, other_at + same)


def letter_at(pieces, at):
    """The letter that is written at a place."""
    index, rest = place_within(sizes_of(pieces), at)
    word = pieces[index][0]
    return word[-rest % len(word)]


def turn_places(pieces):
    """The places of the letters in the first and in the last copy of each word, in ascending order."""
    found = []
    start = 0
    for word, times in pieces:
        size = len(word)
        found.extend(list(range(start, start + size)))
        start += size * times
        if times > 1:
            found.extend(list(range(start - size, start)))
    return found


def standing_groups(part, pieces):
    """Where a word begins in what is written, as a list of tuples in ascending order.

    A tuple `(start, step, times, places)` stands for each of the places, moved by the start and by the step
    from 0 times on, so many times.
    """
    # All copies of a word from which the part ends within the same piece are alike.
    few = [min(times, (len(part) - 1) // len(word) + 2) for word, times in pieces]
    found = standing_places(part, "".join([word * kept for (word, _), kept in zip(pieces, few)]))
    groups = []
    at = begin = start = 0
    for (word, times), kept in zip(pieces, few):
        size = len(word)
        ahead, behind = [], []
        while at < len(found) and found[at] < begin + size * kept:
            if found[at] < begin + size:
                ahead.append(found[at] - begin)
            else:
                behind.append(found[at] - begin)
            at += 1
        groups.append((start, size, times - kept + 1, ahead))
        groups.append((start + size * (times - kept), 0, 1, behind))
        begin += size * kept
        start += size * times
    return groups
