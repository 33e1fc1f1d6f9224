"""Desks: a text that is worked at, with marks in it and a log of what was done."""

from countscribe.checks import need_some_word, need_within
from countscribe.edits import spliced
from countscribe.errors import Clash, NoMark, NothingToRedo, NothingToUndo, Unlike
from countscribe.marks import mark_moved, need_side
from countscribe.patches import Patch, after, need_patch, then
from countscribe.places import frame_of, need_place
from countscribe.texts import length, need_text


class Desk:
    """A text with marks, and the deeds that made it out of the first one.

    A deed is kept as a tuple of what the log tells of it, the patch that it did, if it did one, and the text and the
    marks that stood behind it.
    """

    def __init__(self, text):
        need_text(text)
        self._first = text
        self._done = []
        self._undone = []

    def __eq__(self, other):
        return isinstance(other, Desk) and self._first == other._first and self.log() == other.log()

    def text(self):
        """The text that stands now."""
        return self.text_behind(len(self._done))

    def text_behind(self, many):
        """The text that stood when so many deeds were done."""
        return self._done[many - 1][2] if many else self._first

    def held_marks(self):
        """The places and sides of the marks that stand now, by their names."""
        return dict(self._done[-1][3]) if self._done else {}

    def marks(self):
        """The marks with their places and sides, in the order of their names."""
        held = self.held_marks()
        return [(name,) + held[name] for name in sorted(held)]

    def keep_deed(self, told, patch, text, held):
        """Put a deed behind those that stand, and forget all that are undone."""
        self._done.append((told, patch, text, held))
        self._undone = []

    def splice(self, start, end, given):
        """Put a text in the stead of what stands between two open places."""
        text = spliced(self.text(), start, end, given)
        patch = Patch(self.text(), [(start, end, given)])
        held = moved_marks(self.held_marks(), text.many(), [(start, end, given)])
        self.keep_deed(("splice", start, end, given), patch, text, held)

    def mark(self, name, place, side):
        """Set a mark at an open place."""
        need_some_word(name)
        need_place(frame_of(self.text()), place)
        need_side(side)
        held = self.held_marks()
        held[name] = (place, side)
        self.keep_deed(("mark", name, place, side), None, self.text(), held)

    def unmark(self, name):
        """Take a mark away."""
        need_some_word(name)
        held = self.held_marks()
        if name not in held:
            raise NoMark(name)
        del held[name]
        self.keep_deed(("unmark", name), None, self.text(), held)

    def undo(self):
        """Undo the last deed that stands."""
        if not self._done:
            raise NothingToUndo()
        self._undone.append(self._done.pop())

    def redo(self):
        """Do the deed again that was undone last."""
        if not self._undone:
            raise NothingToRedo()
        self._done.append(self._undone.pop())

    def log(self):
        """The deeds that stand."""
        return [told for told, _, _, _ in self._done]

    def net(self, since):
        """The patch that does what all deeds but the first ones did, None if there is no such patch."""
        need_within(since, 0, len(self._done))
        total = Patch(self.text_behind(since), [])
        for _, patch, _, _ in self._done[since:]:
            if patch is not None:
                total = then(total, patch)
            if total is None:
                return None
        return total

    def bring(self, patch, since):
        """Take in a patch of an earlier text, and tell whether this could be done."""
        need_patch(patch)
        own = self.net(since)
        if patch.text() != self.text_behind(since):
            raise Unlike(patch)
        if own is None:
            return False
        try:
            moved = after(patch, own, False)
        except Clash:
            return False
        held = moved_marks(self.held_marks(), moved.text().many(), moved.splices())
        self.keep_deed(("bring", patch, since), moved, moved.result(), held)
        return True

    def copy(self):
        """A desk of its own with the same first text and deeds."""
        made = Desk(self._first)
        made._done = list(self._done)
        made._undone = list(self._undone)
        return made


def moved_marks(held, many, splices):
    """The marks behind splices of one text, by which they are moved from the last one on."""
    for start, end, given in reversed(splices):
        held = {name: moved_mark(held[name], many, start, end, given) for name in held}
    return held


def moved_mark(mark, many, start, end, given):
    """The place and the side of a mark behind a splice, with None as the place of one that is torn."""
    place, side = mark
    if place is not None:
        place = mark_moved(many, place, side, start, end, length(given))
    return place, side
