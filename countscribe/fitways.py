"""The ways to write the words of examples piece by piece, without any check of what is handed in.

A place is a tuple that tells for each example how many letters of its word are written. A step is a tuple of a piece
and the place behind it. Each piece writes a letter of some example at least, so that no way comes back to a place.
"""

from countscribe.formtools import form_value
from countscribe.piecetools import fixed_piece, is_power
from countscribe.wordtools import alike_ahead, follows, root_sizes


def first_place(examples):
    """The place at which nothing is written."""
    return (0,) * len(examples)


def last_place(examples):
    """The place at which all words are written."""
    return tuple([len(word) for _, word in examples])


def steps_at(many, examples, place):
    """The steps from a place: those by fixed pieces, and those by powers, by their words."""
    rests = [word[at:] for (_, word), at in zip(examples, place)]
    start = shared_start(rests)
    fixed = []
    for size in range(1, len(start) + 1):
        fixed.append((fixed_piece(start[:size], many), tuple([at + size for at in place])))
    powers = {}
    for word in power_words(many, examples, rests):
        powers[word] = power_steps(many, examples, place, [follows(word, rest) // len(word) for rest in rests], word)
    return fixed, powers


def shared_start(words):
    """The longest beginning that all of some words have in common."""
    start = words[0]
    for word in words[1:]:
        start = start[:alike_ahead(start, word)]
    return start


def power_words(many, examples, rests):
    """The words of powers that can stand where so much of each word is left.

    Some unknown stands in the form of a power, so that all examples in which this unknown is not 0 go on with the word.
    """
    found = {}
    for at in range(many):
        group = [rest for (point, _), rest in zip(examples, rests) if point[at]]
        start = shared_start(group) if group else ""
        for size, root in enumerate(root_sizes(start), start=1):
            if root == size:
                found[start[:size]] = True
    return list(found)


def power_steps(many, examples, place, limits, word):
    """The steps by all powers with a word, which for each example goes on at most so many times."""
    steps = []
    points = [point for point, _ in examples]
    for form in forms_within(many, points, limits):
        behind = [at + len(word) * form_value(form, point) for at, point in zip(place, points)]
        steps.append(((word, form), tuple(behind)))
    return steps


def forms_within(many, points, limits):
    """All forms of powers whose values at some points are at most so great."""
    rows = [((0,), limits)]
    for at in range(many):
        grown = []
        for form, left in rows:
            # An unknown that is 0 at all points has no use for any number.
            most = min([room // point[at] for room, point in zip(left, points) if point[at]], default=0)
            for number in range(most + 1):
                rest = [room - number * point[at] for room, point in zip(left, points)]
                grown.append((form + (number,), rest))
        rows = grown
    return [form for form, _ in rows if any(form)]


def all_steps(many, examples):
    """The steps from each place that can be reached."""
    found = {}
    ahead = [first_place(examples)]
    while ahead:
        place = ahead.pop()
        if place not in found:
            found[place] = steps_at(many, examples, place)
            fixed, powers = found[place]
            ahead.extend([behind for _, behind in fixed])
            for word in powers:
                ahead.extend([behind for _, behind in powers[word]])
    return found


def told_backwards(steps, goal, there, elsewhere, tell):
    """For each place what is told of the ways that go on there.

    It is a tuple of what is told of the way that ends there, of those that go on with a fixed piece, and, by the word,
    of those that go on with a power. A function tells it of some steps, from what is told of the places behind them.
    """
    told = {}
    # Each step leads to a place with a greater sum.
    for place in sorted(list(steps), key=sum, reverse=True):
        fixed, powers = steps[place]
        ended = there if place == goal else elsewhere
        told[place] = (ended, tell(told, fixed), {word: tell(told, powers[word]) for word in powers})
    return told


def allowed_behind(told, piece):
    """What is told of those ways that go on so that the pieces stay normal behind a piece, or behind None."""
    ended, fixed, powers = told
    if piece is None:
        return [ended, fixed] + [powers[own] for own in powers]
    word = piece[0]
    if is_power(piece):
        return [ended, fixed] + [powers[own] for own in powers if own != word]
    return [ended] + [powers[own] for own in powers if own[-1] != word[-1]]
