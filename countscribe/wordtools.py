"""What is told of words by their letters, without any check of what is handed in."""


def turned_word(word, by):
    """The word with its first letter put behind the last one, so many times."""
    if not word:
        return word
    at = by % len(word)
    return word[at:] + word[:at]


def stretch(word, start, size):
    """So many letters, from a place on, of a word that is taken without end."""
    at = start % len(word)
    return (word * ((at + size) // len(word) + 1))[at:at + size]


def alike_ahead(one, other):
    """How many letters two words have in common at their beginnings."""
    low, high = 0, min(len(one), len(other))
    if one[:high] == other[:high]:
        return high
    # Halving compares slices, which is much faster than single letters.
    while high - low > 1:
        middle = (low + high) // 2
        if one[low:middle] == other[low:middle]:
            low = middle
        else:
            high = middle
    return low


def alike_behind(one, other):
    """How many letters two words have in common at their ends."""
    return alike_ahead(one[::-1], other[::-1])


def follows(word, text):
    """How many letters a text begins with of a word that is taken without end."""
    return alike_ahead(stretch(word, 0, len(text)), text)


def border_sizes(word):
    """For each beginning of a word, how long the longest word is that begins and ends it, besides itself."""
    sizes = [0] * len(word)
    size = 0
    for at in range(1, len(word)):
        while size and word[at] != word[size]:
            size = sizes[size - 1]
        if word[at] == word[size]:
            size += 1
        sizes[at] = size
    return sizes


def root_size(word):
    """The number of letters of the shortest word of which a word that is not empty is a multiple."""
    step = len(word) - border_sizes(word)[-1]
    return len(word) if len(word) % step else step


def root_sizes(word):
    """For each beginning of a word, the shortest one first, the number of letters of its root."""
    sizes = []
    for size, border in enumerate(border_sizes(word), start=1):
        step = size - border
        sizes.append(size if size % step else step)
    return sizes


def standing_places(part, text):
    """All places of a text at which a word that is not empty begins."""
    found = []
    sizes = border_sizes(part)
    size = 0
    for at, letter in enumerate(text):
        while size and letter != part[size]:
            size = sizes[size - 1]
        if letter == part[size]:
            size += 1
        if size == len(part):
            found.append(at + 1 - size)
            size = sizes[size - 1]
    return found


def least_turn_place(word):
    """The least number of letters that have to be put behind for the first turn in order."""
    size = len(word)
    one, other, same = 0, 1, 0
    while one < size and other < size and same < size:
        left, right = word[(one + same) % size], word[(other + same) % size]
        if left == right:
            same += 1
            continue
        # The turn that comes later in order loses, and so do those that begin within what both share.
        if left > right:
            one += same + 1
        else:
            other += same + 1
        if one == other:
            other += 1
        same = 0
    return min(one, other)
