"""How often and where a word stands in what open texts write."""

from countscribe.checks import is_lettered, need_within
from countscribe.errors import InvalidWord, TooMany
from countscribe.growths import least_growth, number_at
from countscribe.keptorder import kept_place, many_places
from countscribe.runs import least_run
from countscribe.texts import counted, kept, need_text, need_text_along

MOST_PART_LETTERS = 40
MOST_POINTS = 600
MOST_NUMBER = 100


def need_part(value):
    """Refuse what is no word that may be looked for."""
    if not is_lettered(value, MOST_PART_LETTERS) or value == "":
        raise InvalidWord(value)


def need_few_points(size, many):
    """Refuse so many letters for so many unknowns if they lead to too many points."""
    total = 1
    for _ in range(many):
        total *= size
    if total > MOST_POINTS:
        raise TooMany(total)


def points_below(bounds):
    """All points, in order, whose counts are below those of a list."""
    points = [[]]
    for bound in bounds:
        points = [point + [count] for point in points for count in range(bound)]
    return points


def occurrences(text, part):
    """The least growth for at how many places a word stands in what a text writes."""
    need_text(text)
    need_part(part)
    many, size = text.many(), len(part)
    need_few_points(size, many)
    # From one count less than the part has letters on, each further count adds as many places as the one before.
    numbers = [many_places(part, kept(text, point)) for point in points_below([size] * many)]
    slopes = []
    for at in range(many):
        point = [size - 1 + (at == own) for own in range(many)]
        slopes.append(many_places(part, kept(text, point)) - numbers[-1])
    return least_growth([size - 1] * many, numbers, slopes)


def place_along(text, part, number):
    """The least run for the place with a number, in ascending order, at which a word stands."""
    need_text_along(text)
    need_part(part)
    need_within(number, 0, MOST_NUMBER)
    return places_run(text, part, number, False)


def last_along(text, part, number):
    """The least run for the place with a number, in descending order, at which a word stands."""
    need_text_along(text)
    need_part(part)
    need_within(number, 0, MOST_NUMBER)
    return places_run(text, part, number, True)


def places_run(text, part, number, is_last):
    """The least run for the place with a number, counted from the last one or from the first one."""
    since = len(part) + number
    places = [numbered_place(part, kept(text, [count]), number, is_last) for count in range(since + 2)]
    start = places[since]
    return least_run(places[:since], start, 0 if start is None else places[since + 1] - start)


def numbered_place(part, word, number, is_last):
    """The place with a number at which a part stands in a kept word, None if there is none."""
    many = many_places(part, word)
    if number >= many:
        return None
    return kept_place(part, word, many - 1 - number if is_last else number)


def standing_at(text, part):
    """The least point at which a word stands in what a text writes, None if there is none."""
    return least_point(occurrences(text, part), True)


def missing_at(text, part):
    """The least point at which a word does not stand in what a text writes, None if there is none."""
    return least_point(occurrences(text, part), False)


def least_point(growth, is_above):
    """The least point at which a growth that never goes down is above 0, or at which it is not; None if none."""
    # Beyond one count above each limit, nothing is new.
    points = points_below([limit + 2 for limit in growth[0]])
    for _, point in sorted([(sum(point), point) for point in points]):
        if (number_at(growth, point) > 0) == is_above:
            return point
    return None


def parts_of(text, number):
    """The words of so many letters that stand in what a text writes at some point, and those that do at each."""
    need_text(text)
    need_within(number, 1, MOST_PART_LETTERS)
    need_few_points(number, text.many())
    some, every = {}, None
    for point in points_below([number + 1] * text.many()):
        found = parts_at(text, number, point)
        some.update(found)
        # A word that is missing somewhere is missing where all counts are below its letters.
        if max(point, default=0) < number:
            every = found if every is None else {part: True for part in found if part in every}
    return sorted(some), sorted(every)


def parts_at(text, number, point):
    """The words of so many letters that stand in what a text writes at a point, as keys."""
    pieces = counted(text, point)
    # Further copies of a word show nothing that these do not show.
    word = "".join([own * min(times, (number - 1) // len(own) + 2) for own, times in pieces])
    return {word[at:at + number]: True for at in range(len(word) - number + 1)}
