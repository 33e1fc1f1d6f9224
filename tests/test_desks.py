"""[68], [69]: desks, their deeds, and what these do together."""

import unittest

from countscribe import errors
from countscribe.desks import Desk
from countscribe.edits import spliced
from countscribe.marks import mark_moved
from countscribe.patches import Patch, after, then
from countscribe.texts import OpenText, length, written
from helper import FAR, all_points, chances, is_number, refused, run_example, some_text, strange_values, told, told_two
from plainpatches import at_point, clash_of, some_base, some_splices, spliced_word
from plainplaces import is_at_most, plain_places

EXAMPLE = """
from countscribe.desks import Desk
from countscribe.patches import Patch
from countscribe.texts import OpenText
text = OpenText(2, [("a", (0, 1, 0)), ("b", (1, 0, 0)), ("a", (0, 0, 1))])
desk = Desk(text)
[desk.mark("m", (1, 1, 0), "right"), desk.splice((0, 0, 0), (0, 1, 0), OpenText(2, [("c", (0, 2, 0))])), desk.marks()]
# [None, None, [('m', (1, 2, 0), 'right')]]
[desk.bring(Patch(text, [((1, 1, 0), (1, 1, 0), OpenText(2, [("d", (1, 0, 0))]))]), 0), desk.text().pieces(), desk.marks()]
# [True, [('c', (0, 2, 0)), ('bd', (1, 0, 0)), ('a', (0, 0, 1))], [('m', (2, 2, 0), 'right')]]
[desk.undo(), desk.marks(), len(desk.net(0).splices()), desk.net(2).splices(), len(desk.log())]
# [None, [('m', (1, 2, 0), 'right')], 1, [], 2]
"""


class PlainDesk:
    """A desk that keeps all texts and marks as they were, and does each deed by what its point says."""

    def __init__(self, text):
        self.states = [(text, {})]
        self.deeds = []
        self.patches = []
        self.ahead = []

    def marks(self):
        return [(name,) + place for name, place in sorted(self.states[-1][1].items())]

    def do(self, deed, patch, text, marks):
        self.deeds.append(deed)
        self.patches.append(patch)
        self.states.append((text, marks))
        self.ahead = []

    def moved(self, marks, splices):
        for start, end, given in splices[::-1]:
            many = given.many()
            marks = {name: (None if place is None else mark_moved(many, place, side, start, end, length(given)), side) for name, (place, side) in marks.items()}
        return marks

    def splice(self, start, end, given):
        text, marks = self.states[-1]
        self.do(("splice", start, end, given), Patch(text, [(start, end, given)]), spliced(text, start, end, given), self.moved(marks, [(start, end, given)]))

    def mark(self, name, place, side):
        text, marks = self.states[-1]
        self.do(("mark", name, place, side), None, text, {**marks, name: (place, side)})

    def unmark(self, name):
        text, marks = self.states[-1]
        self.do(("unmark", name), None, text, {own: marks[own] for own in marks if own != name})

    def net(self, since):
        total = Patch(self.states[since][0], [])
        for patch in self.patches[since:]:
            if patch is not None and total is not None:
                total = then(total, patch)
        return total

    def bring(self, patch, since):
        net = self.net(since)
        if net is None or clash_of(patch.splices(), net.splices()) is not None:
            return False
        moved = after(patch, net, False)
        self.do(("bring", patch, since), moved, moved.result(), self.moved(self.states[-1][1], moved.splices()))
        return True

    def undo(self):
        self.ahead.append((self.deeds.pop(), self.patches.pop(), self.states.pop()))

    def redo(self):
        deed, patch, state = self.ahead.pop()
        self.deeds.append(deed)
        self.patches.append(patch)
        self.states.append(state)


class ExampleTest(unittest.TestCase):
    def test_example(self):
        run_example(self, EXAMPLE)


class DeedsTest(unittest.TestCase):
    def check(self, desk, plain, chance):
        """The desk stands as the plain one."""
        self.assertEqual([desk.text(), desk.marks(), desk.log()], [plain.states[-1][0], plain.marks(), plain.deeds])
        since = chance.randint(0, len(plain.deeds))
        net = desk.net(since)
        self.assertEqual(net, plain.net(since))
        if net is not None:
            self.assertEqual([net.text(), net.result()], [plain.states[since][0], desk.text()])

    def one_deed(self, desk, plain, chance):
        text = desk.text()
        places = plain_places(text)
        how = chance.choice(["splice"] * 4 + ["mark"] * 4 + ["unmark", "undo", "undo", "redo", "bring", "bring", "wrong"])
        if how == "splice":
            start = chance.choice(places)
            end = chance.choice([place for place in places if is_at_most(start, place)][:6])
            given = some_text(chance, text.many(), chance.choice([0, 1, 1]), "abc")
            self.assertIsNone(desk.splice(start, end, given))
            plain.splice(start, end, given)
        elif how == "mark":
            name, place, side = chance.choice(["m", "n", "mm", "a", "z"]), chance.choice(places), chance.choice(["left", "right"])
            self.assertIsNone(desk.mark(name, place, side))
            plain.mark(name, place, side)
        elif how == "unmark":
            name = chance.choice(["m", "n", "mm"])
            if name in plain.states[-1][1]:
                self.assertIsNone(desk.unmark(name))
                plain.unmark(name)
            else:
                self.no_mark(desk, name)
        elif how == "undo" and plain.deeds:
            self.assertIsNone(desk.undo())
            plain.undo()
        elif how == "redo" and plain.ahead:
            self.assertIsNone(desk.redo())
            plain.redo()
        elif how == "bring":
            since = chance.randint(0, len(plain.deeds))
            base = plain.states[since][0]
            patch = Patch(base, some_splices(chance, base, 2))
            ahead = list(plain.ahead)
            right = plain.bring(patch, since)
            self.assertIs(desk.bring(patch, since), right)
            if not right:
                self.assertEqual(ahead, plain.ahead)
            return right
        elif how == "wrong":
            with self.assertRaises(errors.CountError):
                chance.choice([lambda: desk.splice(None, None, None), lambda: desk.mark("m", (0,), "middle"), lambda: desk.bring(None, 0), lambda: desk.net(-1), lambda: desk.unmark("")])()
        return None

    def no_mark(self, desk, name):
        try:
            desk.unmark(name)
        except errors.NoMark as error:
            self.assertIs(error.name, name)
            return
        self.fail(name)

    def test_against_a_plain_desk(self):
        chance = chances(250)
        brought = {True: 0, False: 0, None: 0}
        torn = nets = 0
        for _ in range(250):
            text = some_base(chance)
            desk, plain = Desk(text), PlainDesk(text)
            for _ in range(14):
                brought[self.one_deed(desk, plain, chance)] += 1
                self.check(desk, plain, chance)
            torn += any([place is None for _, place, _ in desk.marks()])
            nets += desk.net(0) is None
        self.assertTrue(min(brought.values()) > 50 and torn > 20 and nets > 20, (brought, torn, nets))

    def test_against_the_words(self):
        """At every point the deeds that stand, done of the written word, give what the text writes."""
        chance = chances(251)
        for _ in range(120):
            text = some_base(chance)
            desk, plain = Desk(text), PlainDesk(text)
            for _ in range(10):
                self.one_deed(desk, plain, chance)
            for point in all_points(text.many(), 2):
                word = written(text, point)
                for deed, patch in zip(plain.deeds, plain.patches):
                    if deed[0] == "splice":
                        word = spliced_word(word, at_point([deed[1:]], point))
                    elif deed[0] == "bring":
                        for splice in patch.splices()[::-1]:
                            word = spliced_word(word, at_point([splice], point))
                self.assertEqual(written(desk.text(), point), word)

    def test_marks_at_points(self):
        """A mark ahead of all that was replaced stays, and one behind goes along."""
        chance = chances(252)
        for _ in range(200):
            text = some_base(chance)
            desk = Desk(text)
            places = plain_places(text)
            start, place = chance.choice(places), chance.choice(places)
            end = chance.choice([own for own in places if is_at_most(start, own)][:6])
            given = some_text(chance, text.many(), 2)
            desk.mark("m", place, "left"), desk.mark("n", place, "right"), desk.splice(start, end, given)
            for (_, found, side) in desk.marks():
                self.assertEqual(found, mark_moved(text.many(), place, side, start, end, length(given)))


class EdgesTest(unittest.TestCase):
    def setUp(self):
        self.text = OpenText(1, [("a", (0, 1)), ("b", (1, 0))])
        self.c = OpenText(1, [("c", (1, 0))])

    def test_undone_and_done_again(self):
        desk = Desk(self.text)
        self.nothing(desk, "NothingToUndo", desk.undo)
        self.nothing(desk, "NothingToRedo", desk.redo)
        desk.splice((0, 0), (0, 1), self.c), desk.mark("m", (0, 0), "left"), desk.unmark("m")
        texts = [desk.text(), desk.marks(), desk.log()]
        for _ in range(3):
            desk.undo()
        self.assertEqual([desk.text(), desk.marks(), desk.log()], [self.text, [], []])
        self.nothing(desk, "NothingToUndo", desk.undo)
        desk.redo(), desk.redo()
        self.assertEqual([desk.marks(), len(desk.log())], [[("m", (0, 0), "left")], 2])
        desk.redo()
        self.assertEqual([desk.text(), desk.marks(), desk.log()], texts)
        self.nothing(desk, "NothingToRedo", desk.redo)
        # A deed behind an undone one forgets it; what is no deed does not.
        desk.undo(), desk.undo()
        told(self, "InvalidWord", "", desk.unmark, "")
        told(self, "NotOpen", (9, 9), desk.mark, "m", (9, 9), None)
        far = Patch(desk.text(), [((0, 0), (1, 0), OpenText(1, []))])
        self.assertIs(desk.bring(far, 1), True)
        self.nothing(desk, "NothingToRedo", desk.redo)
        desk.undo()
        clash = Patch(self.text, [((0, 0), (1, 1), OpenText(1, []))])
        self.assertEqual([desk.bring(clash, 0), desk.redo(), len(desk.log())], [False, None, 2])

    def nothing(self, desk, name, call):
        before = [desk.text(), desk.marks(), desk.log()]
        with self.assertRaises(getattr(errors, name)) as caught:
            call()
        self.assertEqual([vars(caught.exception), desk.text(), desk.marks(), desk.log()], [{}] + before)

    def test_one_name_twice(self):
        desk = Desk(self.text)
        desk.mark("m", (0, 0), "left"), desk.mark("m", (1, 1), "right"), desk.mark("a", (0, 1), "left")
        self.assertEqual([desk.marks(), len(desk.log())], [[("a", (0, 1), "left"), ("m", (1, 1), "right")], 3])
        desk.undo(), desk.undo()
        self.assertEqual(desk.marks(), [("m", (0, 0), "left")])
        desk.unmark("m")
        with self.assertRaises(errors.NoMark) as caught:
            desk.unmark("m")
        self.assertEqual([caught.exception.name, desk.marks(), len(desk.log())], ["m", [], 2])
        desk.undo()
        self.assertEqual(desk.marks(), [("m", (0, 0), "left")])
        desk.mark("a" * 20000, (0, 0), "left")
        self.assertEqual(len(desk.marks()), 2)

    def test_torn_marks(self):
        text = OpenText(1, [("a", (3, 1))])
        desk = Desk(text)
        desk.mark("m", (0, 1), "left"), desk.mark("n", (3, 0), "right"), desk.mark("o", (0, 0), "left")
        desk.splice((1, 0), (1, 0), OpenText(1, [("a", (1, 0))]))
        self.assertEqual(desk.marks(), [("m", None, "left"), ("n", (4, 0), "right"), ("o", (0, 0), "left")])
        desk.splice((0, 0), (4, 1), self.c)
        self.assertEqual(desk.marks(), [("m", None, "left"), ("n", (1, 0), "right"), ("o", (0, 0), "left")])
        desk.undo(), desk.undo()
        self.assertEqual(desk.marks(), [("m", (0, 1), "left"), ("n", (3, 0), "right"), ("o", (0, 0), "left")])
        desk.redo()
        desk.mark("m", (0, 0), "right"), desk.unmark("n")
        self.assertEqual(desk.marks(), [("m", (0, 0), "right"), ("o", (0, 0), "left")])
        # A splice that takes nothing and gives nothing moves marks as any other one.
        desk = Desk(text)
        desk.mark("m", (0, 1), "left"), desk.mark("n", (1, 0), "left"), desk.splice((1, 0), (1, 0), OpenText(1, []))
        self.assertEqual([desk.marks(), desk.text(), desk.net(0).splices(), len(desk.log())], [[("m", None, "left"), ("n", (1, 0), "left")], text, [], 3])

    def test_nets(self):
        desk = Desk(self.text)
        self.assertEqual(desk.net(0), Patch(self.text, []))
        desk.splice((0, 0), (0, 0), self.c), desk.mark("m", (1, 1), "left"), desk.splice((2, 1), (2, 1), self.c)
        self.assertEqual(desk.net(0), Patch(self.text, [((0, 0), (0, 0), self.c), ((1, 1), (1, 1), self.c)]))
        self.assertEqual([desk.net(1).splices(), desk.net(2).splices(), desk.net(3)], [[((2, 1), (2, 1), self.c)]] * 2 + [Patch(desk.text(), [])])
        desk.undo()
        self.assertEqual(desk.net(2), Patch(desk.text(), []))
        told(self, "InvalidNumber", 3, desk.net, 3)

    def test_no_net(self):
        text = OpenText(1, [("a", (3, 1))])
        desk = Desk(text)
        desk.splice((1, 0), (1, 0), OpenText(1, [("a", (1, 0))])), desk.splice((0, 1), (0, 1), self.c), desk.mark("m", (0, 0), "left")
        self.assertEqual([desk.net(0), desk.net(1).splices(), desk.net(2).splices()], [None, [((0, 1), (0, 1), self.c)], []])
        patch = Patch(text, [((0, 0), (0, 0), self.c)])
        before = [desk.text(), desk.marks(), desk.log()]
        self.assertEqual([desk.bring(patch, 0), desk.text(), desk.marks(), desk.log()], [False] + before)
        other = Patch(self.text, [])
        told(self, "Unlike", other, desk.bring, other, 0)
        desk.undo()
        self.assertIs(desk.bring(patch, 0), False)
        desk.undo()
        self.assertEqual([desk.bring(patch, 0), desk.text().pieces()], [True, [("c", (1, 0)), ("a", (0, 1)), ("aaaa", (1, 0))]])

    def test_patches_taken_in(self):
        desk = Desk(self.text)
        desk.splice((0, 1), (0, 1), self.c), desk.mark("m", (0, 1), "left"), desk.mark("n", (0, 1), "right")
        # Both put at one place: what stands there already goes first.
        patch = Patch(self.text, [((0, 1), (0, 1), OpenText(1, [("d", (1, 0))])), ((1, 1), (1, 1), self.c)])
        self.assertEqual([desk.bring(patch, 0), desk.text().pieces()], [True, [("a", (0, 1)), ("cdbc", (1, 0))]])
        self.assertEqual([desk.marks(), desk.log()[-1]], [[("m", (0, 1), "left"), ("n", (0, 1), "right")], ("bring", patch, 0)])
        self.assertEqual([desk.net(0).splices(), desk.net(3).splices()],
                         [[((0, 1), (0, 1), OpenText(1, [("cd", (1, 0))])), ((1, 1), (1, 1), self.c)], [((1, 1), (1, 1), OpenText(1, [("d", (1, 0))])), ((2, 1), (2, 1), self.c)]])
        self.assertIs(desk.bring(patch, 0), True)
        self.assertEqual(desk.text().pieces(), [("a", (0, 1)), ("cddbcc", (1, 0))])
        nothing = Patch(self.text, [])
        self.assertEqual([desk.bring(nothing, 0), len(desk.log()), desk.net(5).splices()], [True, 6, []])
        clash = Patch(self.text, [((0, 0), (1, 1), OpenText(1, []))])
        before = [desk.text(), desk.marks(), desk.log()]
        self.assertEqual([desk.bring(clash, 0), desk.text(), desk.marks(), desk.log()], [False] + before)
        stale = Patch(self.text, [])
        told(self, "Unlike", stale, desk.bring, stale, 1)
        self.assertEqual([desk.undo(), desk.undo(), desk.undo(), desk.text().pieces()], [None] * 3 + [[("a", (0, 1)), ("cb", (1, 0))]])

    def test_marks_moved_by_the_last_splice_first(self):
        text = OpenText(1, [("abcd", (1, 0)), ("e", (0, 1))])
        desk = Desk(text)
        for name, place in [("a", (1, 0)), ("b", (2, 0)), ("c", (3, 0)), ("d", (4, 1))]:
            desk.mark(name, place, "right")
        patch = Patch(text, [((0, 0), (1, 0), OpenText(1, [("x", (0, 1))])), ((2, 0), (3, 0), OpenText(1, []))])
        self.assertIs(desk.bring(patch, 0), True)
        self.assertEqual(desk.marks(), [("a", (0, 1), "right"), ("b", (1, 1), "right"), ("c", (1, 1), "right"), ("d", (2, 2), "right")])

    def test_too_long(self):
        desk = Desk(OpenText(1, [("a" * 1000, (1, 0)), ("b", (0, 1))]))
        given = OpenText(1, [("x", (1000, 0))])
        told(self, "TooLong", 2001, desk.splice, (0, 0), (0, 0), given)
        desk.splice((0, 0), (0, 0), OpenText(1, [("x", (900, 0))]))
        patch = Patch(Desk(OpenText(1, [("a" * 1000, (1, 0)), ("b", (0, 1))])).text(), [((1000, 1), (1000, 1), OpenText(1, [("y", (100, 0))]))])
        told(self, "TooLong", 2001, desk.bring, patch, 0)
        self.assertEqual(len(desk.log()), 1)

    def test_nets_are_never_too_long(self):
        long = OpenText(1, [("a" * 900 + "b", (0, 9))])
        desk = Desk(long)
        desk.splice((0, 901 * 2), (0, 901 * 5), OpenText(1, []))
        desk.splice((0, 901 * 2), (0, 901 * 2), self.c)
        desk.splice((0, 901 * 2), (1, 901 * 2), OpenText(1, []))
        self.assertEqual([len(desk.net(0).splices()), desk.net(0).result(), desk.net(1).splices()], [1, desk.text(), []])

    def test_copies_go_apart(self):
        desk = Desk(self.text)
        desk.mark("m", (0, 0), "left"), desk.splice((0, 0), (0, 0), self.c), desk.undo()
        other = desk.copy()
        self.assertEqual([other == desk, other.text(), other.marks(), other.log()], [True, desk.text(), desk.marks(), desk.log()])
        other.redo()
        self.assertEqual([other == desk, other.text(), desk.text(), len(desk.log())], [False, OpenText(1, [("c", (1, 0)), ("a", (0, 1)), ("b", (1, 0))]), self.text, 1])
        desk.redo()
        self.assertTrue(other == desk)
        desk.unmark("m"), other.mark("n", (0, 0), "left")
        self.assertEqual([desk.marks(), other.marks(), desk == other], [[], [("m", (0, 0), "left"), ("n", (0, 0), "left")], False])
        other.undo(), desk.undo()
        self.assertEqual([desk == other, desk.copy().copy() == other], [True, True])
        copied = desk.copy()
        desk.undo(), desk.undo()
        self.assertEqual([len(copied.log()), copied.text() == desk.text()], [2, False])

    def test_equal_desks(self):
        one, other = Desk(self.text), Desk(OpenText(1, self.text.pieces()))
        self.assertTrue(one == other)
        # The same text and marks by other deeds is not the same desk.
        one.splice((0, 0), (0, 0), OpenText(1, []))
        self.assertEqual([one.text() == other.text(), one == other], [True, False])
        other.splice((0, 0), (0, 0), OpenText(1, [("", (1, 0))]))
        self.assertTrue(one == other)
        # What is undone does not count.
        one.mark("m", (0, 0), "left"), one.undo()
        self.assertTrue(one == other)
        patch = Patch(self.text, [((0, 0), (0, 0), self.c)])
        one.bring(patch, 0), other.bring(Patch(self.text, [((0, 0), (0, 0), self.c)]), 0)
        self.assertTrue(one == other)
        other.undo(), other.bring(patch, 1)
        self.assertFalse(one == other)
        for value in strange_values():
            self.assertIs(one == value, False)
            self.assertIs(Desk(OpenText(0, [])) == value, isinstance(value, Desk))

    def test_60_deeds(self):
        text = OpenText(2, [("ab", (1, 3, FAR)), ("a", (2, 1, 0))])
        desk = Desk(text)
        for number in range(60):
            if number % 3:
                desk.splice((0, 0, 0), (0, 0, 0), OpenText(2, [("c", (1, 1, 0))]))
            elif number % 2:
                self.assertIs(desk.bring(Patch(text, [(length(text), length(text), OpenText(2, [("d", (0, 0, number + 1))]))]), 0), True)
            else:
                desk.mark("m", length(desk.text()), "left")
        self.assertEqual([len(desk.log()), len(desk.net(0).splices()), len(desk.net(30).splices()), desk.net(60).splices()], [60, 2, 2, []])
        for _ in range(60):
            desk.undo()
        self.assertEqual([desk.text(), desk.marks()], [text, []])
        for _ in range(60):
            desk.redo()
        self.assertEqual(len(desk.log()), 60)


class WrongInputsTest(unittest.TestCase):
    def setUp(self):
        self.text = OpenText(1, [("ab", (0, 2)), ("c", (1, 0))])
        self.desk = Desk(self.text)
        self.desk.mark("m", (0, 0), "left")

    def tearDown(self):
        self.assertEqual([self.desk.text(), self.desk.marks(), self.desk.log()], [self.text, [("m", (0, 0), "left")], [("mark", "m", (0, 0), "left")]])

    def test_texts_and_splices(self):
        refused(self, "InvalidText", lambda value: isinstance(value, OpenText), Desk)

        def is_form(value):
            return isinstance(value, tuple) and len(value) == 2 and all([is_number(number, 0, 10 ** 99) for number in value])

        none = OpenText(1, [])
        refused(self, "InvalidForm", is_form, lambda value: self.desk.splice(value, None, None))
        refused(self, "InvalidForm", is_form, lambda value: self.desk.splice((0, 0), value, None))
        refused(self, "InvalidText", lambda value: isinstance(value, OpenText), lambda value: self.desk.splice((0, 0), (0, 0), value))
        told(self, "NotOpen", (0, 1), self.desk.splice, (0, 1), None, None)
        told(self, "NotOpen", (0, 1), self.desk.splice, (0, 2), (0, 1), None)
        told_two(self, "NotInOrder", (0, 2), (0, 0), self.desk.splice, (0, 2), (0, 0), None)
        other = OpenText(2, [])
        told(self, "Unlike", other, self.desk.splice, (0, 0), (0, 0), other)
        told(self, "TooLong", 2003, self.desk.splice, (0, 0), (0, 0), OpenText(1, [("a", (1999, 0)), ("d", (0, 1))]))
        refused(self, "InvalidForm", is_form, lambda value: self.desk.mark("m", value, None))
        told(self, "NotOpen", (0, 1), self.desk.mark, "m", (0, 1), None)
        self.assertEqual(none.pieces(), [])

    def test_names_and_sides(self):
        def is_name(value):
            return isinstance(value, str) and value.isalpha() and value.islower() and len(value) <= 20000

        refused(self, "InvalidWord", is_name, lambda value: self.desk.mark(value, None, None))
        refused(self, "InvalidWord", is_name, lambda value: self.desk.unmark(value))
        refused(self, "InvalidSide", lambda value: False, lambda value: self.desk.mark("n", (0, 2), value))
        for name in ["a", "mm", "abc"]:
            with self.assertRaises(errors.NoMark) as caught:
                self.desk.unmark(name)
            self.assertIs(caught.exception.name, name)

    def test_patches_and_numbers(self):
        refused(self, "InvalidNumber", lambda value: is_number(value, 0, 1), self.desk.net)
        patch = Patch(self.text, [])
        refused(self, "InvalidPatch", lambda value: isinstance(value, Patch), lambda value: self.desk.bring(value, None))
        refused(self, "InvalidNumber", lambda value: is_number(value, 0, 1), lambda value: self.desk.bring(patch, value))
        for other in [Patch(OpenText(1, []), []), Patch(OpenText(2, []), [])]:
            told(self, "Unlike", other, self.desk.bring, other, 0)
            told(self, "InvalidNumber", 2, self.desk.bring, other, 2)

    def test_by_names_and_lists_belong_to_the_caller(self):
        desk = Desk(text=self.text)
        none = OpenText(1, [])
        desk.mark(name="m", place=(0, 2), side="left"), desk.splice(start=(0, 0), end=(0, 2), given=none), desk.unmark(name="m")
        patch = Patch(self.text, [])
        self.assertEqual([desk.bring(patch=patch, since=0), desk.net(since=0).splices()], [True, [((0, 0), (0, 2), none)]])
        log, marks = desk.log(), desk.marks()
        desk.undo(), desk.undo(), desk.mark("k", (0, 0), "left")
        self.assertEqual(log, [("mark", "m", (0, 2), "left"), ("splice", (0, 0), (0, 2), none), ("unmark", "m"), ("bring", patch, 0)])
        log.append(1), marks.append(2), desk.log().append(3), desk.marks().append(4), desk.net(0).splices().append(5)
        self.assertEqual([desk.log(), desk.marks(), desk.net(0).splices()], [log[:2] + [("mark", "k", (0, 0), "left")], [("k", (0, 0), "left"), ("m", (0, 0), "left")], [((0, 0), (0, 2), none)]])
        self.assertEqual([patch.splices(), patch.result()], [[], self.text])


if __name__ == "__main__":
    unittest.main()
