"""Open texts as one bare word and powers that can be moved along it, and the open places that follow from this.

An open place is kept as a tuple `(done, part, at)`: so many powers are taken whole, and of the next one as much as
the form `part` says; and so many letters of the bare word.
"""

from countscribe.formtools import form_sum, form_times, plain_form
from countscribe.piecetools import is_power
from countscribe.wordtools import follows


class Frame:
    """The bare word of a normal list and its powers, with what bounds their moves."""

    def __init__(self, unknowns, listed):
        self.unknowns = unknowns
        self.bare = "".join([word for word, form in listed if not is_power((word, form))])
        self.words = [word for word, form in listed if is_power((word, form))]
        self.forms = [form for word, form in listed if is_power((word, form))]
        self.starts = starts_of(listed)
        self.floors = [0] + self.starts
        self.limits = limits_of(self.bare, self.words, self.starts)
        self.sums = sums_of(self.words, self.forms, unknowns)
        self.steps = steps_of(self.forms)


def starts_of(listed):
    """For each power of a normal list how many letters the fixed pieces ahead of it have."""
    starts = []
    total = 0
    for word, form in listed:
        if is_power((word, form)):
            starts.append(total)
        else:
            total += len(word)
    return starts


def limits_of(bare, words, starts):
    """For each power the least reach of it and of all later ones, and behind these the length of the bare word."""
    limits = [len(bare)]
    for index in range(len(words) - 1, -1, -1):
        start = starts[index]
        limits.append(min(limits[-1], start + follows(words[index], bare[start:])))
    return list(reversed(limits))


def sums_of(words, forms, unknowns):
    """How many letters the first powers write together, from none of them to all."""
    sums = [plain_form(0, unknowns)]
    for word, form in zip(words, forms):
        sums.append(form_sum(sums[-1], form_times(len(word), form)))
    return sums


def steps_of(forms):
    """How many places, of those with the same letters of the bare word, the first powers lead past."""
    steps = [0]
    for form in forms:
        made = 1
        for number in form[1:]:
            made *= number + 1
        steps.append(steps[-1] + made - 1)
    return steps


def how_many_below(values, bound):
    """How many values of an ascending list are below a bound."""
    low, high = 0, len(values)
    while low < high:
        middle = (low + high) // 2
        if values[middle] < bound:
            low = middle + 1
        else:
            high = middle
    return low


def fewest_done(frame, at):
    """The least number of powers that can be ahead of a place with so many letters of the bare word."""
    return how_many_below(frame.limits, at)


def most_done(frame, at):
    """The greatest number of powers that can be ahead of a place with so many letters of the bare word."""
    return how_many_below(frame.floors, at + 1) - 1


def place_form(frame, place):
    """The length of what is ahead of an open place."""
    done, part, at = place
    form = form_sum(frame.sums[done], plain_form(at, frame.unknowns))
    return form_sum(form, form_times(len(frame.words[done]), part)) if any(part) else form


def located(frame, form):
    """The open place with a form as its length, None if there is none."""
    at, aim = form[0], (0,) + form[1:]
    if at > len(frame.bare):
        return None
    low, high = fewest_done(frame, at), most_done(frame, at)
    none = plain_form(0, frame.unknowns)
    done = how_many_below(frame.sums, aim)
    if done < len(frame.sums) and frame.sums[done] == aim:
        return (done, none, at) if low <= done <= high else None
    done -= 1
    if not low <= done < high:
        return None
    part = part_between(frame, done, aim)
    return None if part is None else (done, part, at)


def part_between(frame, done, aim):
    """How much of a power leads from the powers ahead of it to just this sum, None if nothing does."""
    part = [0]
    for number, start, most in zip(aim[1:], frame.sums[done][1:], frame.forms[done][1:]):
        many = number - start
        if many < 0 or many % len(frame.words[done]) or many // len(frame.words[done]) > most:
            return None
        part.append(many // len(frame.words[done]))
    return tuple(part)


def counts_ahead(frame):
    """For each number of letters of the bare word how many open places have fewer of them, and then how many in all."""
    counts = [0]
    for at in range(len(frame.bare) + 1):
        counts.append(counts[-1] + 1 + frame.steps[most_done(frame, at)] - frame.steps[fewest_done(frame, at)])
    return counts


def place_number_of(frame, place):
    """The number of an open place, as they stand in order."""
    done, part, at = place
    within = 0
    if any(part):
        for count, most in zip(part[1:], frame.forms[done][1:]):
            within = within * (most + 1) + count
    return counts_ahead(frame)[at] + frame.steps[done] - frame.steps[fewest_done(frame, at)] + within


def numbered_place(frame, counts, number):
    """The open place with a number, as they stand in order."""
    at = how_many_below(counts, number + 1) - 1
    rest = number - counts[at] + frame.steps[fewest_done(frame, at)]
    done = how_many_below(frame.steps, rest + 1) - 1
    rest -= frame.steps[done]
    part = plain_form(0, frame.unknowns)
    if rest:
        part = part_numbered(frame.forms[done], rest)
    return done, part, at


def part_numbered(form, number):
    """The form with a number, in order, of those with the constant 0 that are at most a form."""
    part = ()
    for most in reversed(form[1:]):
        part = (number % (most + 1),) + part
        number = number // (most + 1)
    return (0,) + part


def greatest_below(frame, form):
    """The greatest open place that is at most a form."""
    done = 0
    while done < len(frame.words) and is_reached(frame.sums[done + 1], form):
        done += 1
    at = min(form[0], frame.limits[done])
    high = most_done(frame, at)
    part = plain_form(0, frame.unknowns)
    if done < high:
        size = len(frame.words[done])
        rows = list(zip(form[1:], frame.sums[done][1:], frame.forms[done][1:]))
        part = (0,) + tuple([min(most, (number - start) // size) for number, start, most in rows])
    return min(done, high), part, at


def least_above(frame, form):
    """The least open place that a form is at most, where the form is at most the length."""
    done = 0
    while not is_reached((0,) + form[1:], frame.sums[done]):
        done += 1
    at = max(form[0], frame.floors[done])
    low = fewest_done(frame, at)
    if low >= done:
        return low, plain_form(0, frame.unknowns), at
    size = len(frame.words[done - 1])
    rows = list(zip(form[1:], frame.sums[done - 1][1:]))
    part = [max(0, (number - start + size - 1) // size) for number, start in rows]
    return done - 1, (0,) + tuple(part), at


def is_reached(one, other):
    """Whether each number at an unknown in one form is at most the number there in the other."""
    return all([left <= right for left, right in zip(one[1:], other[1:])])
