"""Patches: several splices of one text at once, undone, one after another, and taken over from another hand."""

from countscribe.alike import growing_point
from countscribe.errors import Clash, InvalidFlag, InvalidPatch, InvalidSplice, InvalidSplices, Unlike
from countscribe.formtools import at_most, is_form_for
from countscribe.frames import located
from countscribe.marks import are_in_order
from countscribe.pieces import need_measure
from countscribe.piecetools import measure
from countscribe.places import frame_of
from countscribe.splicetools import borders_of, carried, gathered, in_turn, is_ahead
from countscribe.splicetools import met_ranges, ranges_of, texts_between
from countscribe.texts import OpenText, need_text, size, spread


class Patch:
    """Several splices of one text at once."""

    def __init__(self, text, splices):
        need_text(text)
        need_splices(text, splices)
        rows = gathered(splices)
        stays = texts_between(text, ranges_of(rows))[::2]
        given = [item[2] for item in splices]
        need_measure(sum([measure(own.pieces()) for own in given + stays]))
        pieces = stays[0].pieces()
        for row, stay in zip(rows, stays[1:]):
            pieces = pieces + row[2] + stay.pieces()
        self._text = text
        self._splices = [(start, end, OpenText(text.many(), own)) for start, end, own in rows]
        self._result = OpenText(text.many(), pieces)

    def __eq__(self, other):
        return isinstance(other, Patch) and self._text == other._text and self._splices == other._splices

    def text(self):
        """The text that is patched."""
        return self._text

    def splices(self):
        """The splices, without those that do nothing, and with those that touch made one."""
        return list(self._splices)

    def result(self):
        """The text with all splices done."""
        return self._result


def is_splice(frame, value):
    """Whether a value is a splice of the text of a frame."""
    if not isinstance(value, tuple) or len(value) != 3:
        return False
    for place in value[:2]:
        if not is_form_for(frame.unknowns, place) or located(frame, place) is None:
            return False
    return at_most(value[0], value[1]) and isinstance(value[2], OpenText) and value[2].many() == frame.unknowns


def need_splices(text, value):
    """Refuse what is no list of splices of a text, each of them behind the one ahead."""
    if not isinstance(value, list):
        raise InvalidSplices(value)
    frame = frame_of(text)
    for index, item in enumerate(value):
        if not is_splice(frame, item) or (index and not is_ahead(value[index - 1], item)):
            raise InvalidSplice(item)


def need_patch(value):
    """Refuse what is no patch."""
    if not isinstance(value, Patch):
        raise InvalidPatch(value)


def need_like_patches(one, other):
    """Refuse what are no two patches of one text."""
    need_patch(one)
    need_patch(other)
    if one.text() != other.text():
        raise Unlike(other)


def made_patch(text, splices, result):
    """The patch with splices of a text that are known to be right, however great the measure is."""
    made = Patch(text, [])
    made._splices = splices
    made._result = result
    return made


def patches_part(one, other):
    """A point at which two patches do not keep the same letters or put the same words, None if there is none."""
    need_like_patches(one, other)
    if one == other:
        return None
    splices = one.splices() + other.splices()
    places = [place for own in ranges_of(splices) for place in own]
    texts = [own[2] for own in splices]
    # Here all places have different values and all texts write different words, unless they are equal.
    start = 1 + max([size(own) for own in texts] + [place[0] for place in places])
    factor = max([spread(own) for own in texts] + [1 + number for place in places for number in place[1:]])
    return growing_point(start, factor, one.text().many())


def undone(patch):
    """The patch of the result that gives back what a patch took out."""
    need_patch(patch)
    splices = patch.splices()
    out = texts_between(patch.text(), ranges_of(splices))[1::2]
    back = [(low, high, own) for (low, high), own in zip(borders_of(splices), out)]
    return made_patch(patch.result(), back, patch.text())


def then(first, second):
    """The patch that does what two patches do one after the other, None if they cannot be put together."""
    need_patch(first)
    need_patch(second)
    if second.text() != first.result():
        raise Unlike(second)
    inner, outer = borders_of(first.splices()), ranges_of(second.splices())
    if not are_all_in_order(inner, outer):
        return None
    rows = met_ranges(inner, outer)
    old, new = ranges_of(first.splices()), borders_of(second.splices())
    out = [(carried(low, inner, old, ahead[0]), carried(high, inner, old, past[0])) for low, ahead, high, past in rows]
    put = [(carried(low, outer, new, ahead[1]), carried(high, outer, new, past[1])) for low, ahead, high, past in rows]
    given = texts_between(second.result(), put)[1::2]
    splices = [(start, end, own) for (start, end), own in zip(out, given) if start != end or own.pieces()]
    return made_patch(first.text(), splices, second.result())


def are_all_in_order(ones, others):
    """Whether each end of each range of one list is in order with each of the other list."""
    for one in ones:
        for other in others:
            if not all([are_in_order(place, own) for place in one for own in other]):
                return False
    return True


def need_no_clash(one, other):
    """Refuse two patches with splices of which neither is ahead of the other."""
    for own in one.splices():
        for its in other.splices():
            if not is_ahead(own, its) and not is_ahead(its, own):
                raise Clash(own, its)


def merged(one, other):
    """The patch with all splices of two patches of one text; what `one` puts goes first where both put."""
    need_like_patches(one, other)
    need_no_clash(one, other)
    return Patch(one.text(), [item for item, _ in in_turn(one.splices(), other.splices(), is_ahead)])


def after(one, other, first):
    """The patch of the result of `other` that does there what `one` does.

    Where both put at the same place, `one` goes first if `first` is True, otherwise `other`.
    """
    need_like_patches(one, other)
    if not isinstance(first, bool):
        raise InvalidFlag(first)
    need_no_clash(one, other)
    old, new = ranges_of(other.splices()), borders_of(other.splices())
    moved = []
    for own in one.splices():
        many = len([its for its in old if is_ahead(its, own) and not (first and is_ahead(own, its))])
        moved.append((carried(own[0], old, new, many), carried(own[1], old, new, many), own[2]))
    return Patch(other.result(), moved)
