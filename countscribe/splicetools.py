"""Ranges of open places and splices of a text, without any check of what is handed in.

A range is a tuple of two places, the first at most the second; a splice is a tuple of these and of the text that is
given. Lists of them stand in order: each begins where the one ahead of it ends, or behind that.
"""

from countscribe.cuts import stretches
from countscribe.formtools import at_most, form_difference, form_sum, greater_form
from countscribe.frames import located
from countscribe.places import frame_of
from countscribe.texts import length


def ranges_of(splices):
    """The ranges of splices."""
    return [item[:2] for item in splices]


def texts_between(text, ranges):
    """What stands ahead of the first range of a text, in it, between it and the next one, and so on to the end."""
    frame = frame_of(text)
    return stretches(frame, [located(frame, place) for own in ranges for place in own])


def gathered(splices):
    """What splices do, where those that do nothing are left out and those that touch are put together.

    It is a list of tuples of the start, the end and the pieces of what is given.
    """
    rows = []
    for start, end, given in splices:
        pieces = given.pieces()
        if start == end and not pieces:
            continue
        if rows and rows[-1][1] == start:
            start, _, ahead = rows.pop()
            pieces = ahead + pieces
        rows.append((start, end, pieces))
    return rows


def borders_of(splices):
    """For each splice where what it gave begins and ends in the result."""
    found = []
    for index, (start, _, given) in enumerate(splices):
        low = carried(start, splices, found, index)
        found.append((low, form_sum(low, length(given))))
    return found


def carried(place, old, new, many):
    """Where a place that is behind so many ranges of one list stands behind as many of another list."""
    if not many:
        return place
    return form_difference(form_sum(place, new[many - 1][1]), old[many - 1][1])


def is_ahead(one, other):
    """Whether a range ends where another one starts, or ahead of that."""
    return at_most(one[1], other[0])


def starts_first(one, other):
    """Whether a range starts where another one starts, or ahead of that."""
    return at_most(one[0], other[0])


def in_turn(ones, others, goes_first):
    """The items of two lists in one, each with the number of its list.

    A function tells of an item of the first list and one of the other whether the former goes first.
    """
    rows = []
    one = other = 0
    while one < len(ones) or other < len(others):
        if other == len(others) or (one < len(ones) and goes_first(ones[one], others[other])):
            rows.append((ones[one], 0))
            one += 1
        else:
            rows.append((others[other], 1))
            other += 1
    return rows


def met_ranges(ones, others):
    """The ranges of two lists, put together where they meet or touch.

    It is a list of tuples of the low end, how many ranges of each list are ahead of it, the high end, and how many
    ranges of each list are ahead of what is behind that.
    """
    found = []
    many = [0, 0]
    for (start, end), side in in_turn(ones, others, starts_first):
        passed = tuple(many)
        if found and at_most(start, found[-1][2]):
            start, passed, high, _ = found.pop()
            end = greater_form(high, end)
        many[side] += 1
        found.append((start, passed, end, tuple(many)))
    return found
