"""What holds over the whole program: arguments by position and by name, and texts that come back."""

import importlib
import inspect
import unittest

from countscribe.bits import bits_of, read_bits
from countscribe.costs import Prices
from countscribe.desks import Desk
from countscribe.edits import least_splice, spliced
from countscribe.examples import fits, simplest
from countscribe.kept import KeptWord
from countscribe.leancounts import how_many_lean, lean_by_number, number_of_lean
from countscribe.lineforms import line_of, read_line
from countscribe.lines import Line
from countscribe.numbering import number_of, numbered, weight
from countscribe.patches import Patch, undone
from countscribe.readback import read_back, read_kept, reading_point
from countscribe.shortest import least_writer
from countscribe.texts import OpenText, joined, kept, length, mirrored, size, spread, written
from helper import all_points, chances, some_text
from plaintexts import texts_of_weight
from plainways import bare_word, plain_spots
from test_interface import FUNCTIONS, METHODS

TEXT, SHORT, WIDE = OpenText(1, [("ab", (1, 2)), ("c", (1, 0))]), OpenText(1, [("ab", (0, 1))]), OpenText(2, [("a", (0, 1, 0)), ("b", (1, 0, 1))])
KEPT, LINE = KeptWord([("ab", 10 ** 20), ("a", 1)]), Line([1], [2])
PATCH = Patch(SHORT, [((0, 0), (0, 2), TEXT)])
RUN, WHEEL, GROWTH = ([1], 3, 1), (["c"], ["b", "a"]), ([1], [4, 5], [3])
EXAMPLES = [([1], "ab"), ([2], "abab")]
# Arguments for each function and class of the interface, in its order.
CALLS = {
    "words": {"is_word": ["ab"], "turned": ["ab", 1], "root": ["abab"], "period": ["aba"], "common_start": ["ab", "ac"], "common_end": ["ab", "cb"], "goes_on": ["ab", "aba"], "places": ["a", "aba"],
              "least_turn": ["ba"]},
    "kept": {"KeptWord": [[("ab", 3)]], "joined_kept": [KEPT, KEPT], "mirrored_kept": [KEPT]},
    "keptorder": {"agree": [KEPT, KEPT], "compare": [KEPT, KEPT], "same_kept": [KEPT, KEPT], "many_places": ["ab", KEPT], "kept_place": ["ab", KEPT, 3], "kept_root": [KEPT], "turned_kept": [KEPT, 5],
                  "least_kept_turn": [KEPT], "is_turn_of": [KEPT, KEPT]},
    "forms": {"is_form": [1, (0, 1)], "value": [(1, 2), [3]], "added": [(1, 2), (3, 4)], "scaled": [3, (1, 2)], "below": [(1, 2), (3, 4)], "inserted": [(1, 2), 0, [(3,)]]},
    "pieces": {"normal": [1, [("ab", (1, 1))]], "is_normal": [1, [("ab", (0, 1))]]},
    "texts": {"OpenText": [1, [("ab", (0, 1))]], "size": [TEXT], "spread": [TEXT], "unknowns": [TEXT], "written": [TEXT, [2]], "kept": [TEXT, [2]], "length": [TEXT], "letters": [TEXT, "a"],
              "joined": [TEXT, SHORT], "repeated": [TEXT, 2], "mirrored": [TEXT], "mapped": [TEXT, {"a": "x"}], "replaced": [TEXT, 2, [(1, 0, 1)]]},
    "alike": {"decisive": [TEXT, SHORT], "parting": [TEXT, SHORT]},
    "shifts": {"later": [TEXT, 0, 2], "earlier": [TEXT, 0], "thinned": [TEXT, 0, 2], "first": [TEXT, 0]},
    "rings": {"same_ring": [TEXT, SHORT], "ring_point": [TEXT, SHORT], "ring": [TEXT]},
    "roots": {"greatest_root": [TEXT], "common_root": [SHORT, SHORT]},
    "places": {"is_open_place": [TEXT, (0, 2)], "how_many_places": [TEXT], "open_place": [TEXT, 1], "place_number": [TEXT, (0, 2)], "place_below": [TEXT, (1, 1)], "place_above": [TEXT, (1, 1)]},
    "cuts": {"cut": [TEXT, (0, 2)], "parts": [TEXT, [(0, 2), (0, 4)]]},
    "beginnings": {"begins": [TEXT, SHORT], "ends": [TEXT, SHORT], "common_beginning": [TEXT, SHORT], "common_ending": [TEXT, SHORT], "stripped": [TEXT, SHORT]},
    "runs": {"is_run": [RUN], "least_run": [[1], 3, 1], "run_value": [RUN, 5], "run_sum": [RUN, RUN], "run_lesser": [RUN, RUN], "run_meetings": [RUN, RUN], "is_wheel": [WHEEL],
             "least_wheel": [["c"], ["b"]], "wheel_value": [WHEEL, 7]},
    "growths": {"is_growth": [1, GROWTH], "least_growth": [[1], [4, 5], [3]], "growth_value": [GROWTH, [7]], "growth_along": [GROWTH, LINE]},
    "lines": {"Line": [[1], [2]], "point_at": [LINE, 3], "place_on": [LINE, [7]], "along": [TEXT, LINE], "letters_along": [TEXT, (0, 1)]},
    "order": {"agreement": [TEXT, SHORT], "order_along": [TEXT, SHORT], "ranks_along": [[TEXT, SHORT]]},
    "occurrences": {"occurrences": [TEXT, "ab"], "place_along": [TEXT, "ab", 1], "last_along": [TEXT, "ab", 1], "standing_at": [TEXT, "ab"], "missing_at": [TEXT, "ab"], "parts_of": [TEXT, 2]},
    "costs": {"vector": [1, TEXT.pieces()], "cost": [1, TEXT.pieces(), Prices(sign=2)]},
    "plainwriters": {"least_plain": ["aab", Prices()], "plain_front": ["aab"], "plain_paper": ["aab", None], "is_plain_paper": ["aab", None, None]},
    "lean": {"spots": [TEXT], "placed": [TEXT, [0], [1]], "is_lean": [TEXT, TEXT.pieces()], "places_of": [TEXT, TEXT.pieces()], "leaned": [1, TEXT.pieces()]},
    "shortest": {"least_cost": [TEXT, None], "least_writer": [TEXT, Prices(number=3)], "writer_paper": [TEXT, None], "is_writer_paper": [TEXT, None, (1, [], [])]},
    "fronts": {"front": [TEXT], "front_writer": [TEXT, (3, 1, 1, 1)]},
    "leancounts": {"how_many_lean": [TEXT], "lean_by_number": [TEXT, 1], "number_of_lean": [TEXT, TEXT.pieces()]},
    "shared": {"agreeing": [TEXT, SHORT], "shared": [TEXT, SHORT], "shared_text": [SHORT, SHORT]},
    "pointsof": {"points_of": [SHORT, "abab"], "shared_words": [[SHORT, WIDE], 3]},
    "readback": {"reading_point": [1, 2, 3], "read_back": [1, 2, 2, "ababab"], "read_kept": [1, 3, 2, KEPT]},
    "marks": {"in_order": [1, (1, 0), (0, 1)], "torn_points": [1, (1, 0), (0, 1)], "least_place": [1, (1, 0), (0, 1)], "greatest_place": [1, (1, 0), (0, 1)],
              "mark_moved": [1, (1, 0), "left", (1, 0), (2, 0), (0, 1)]},
    "edits": {"spliced": [SHORT, (0, 0), (0, 2), TEXT], "put": [SHORT, (0, 0), TEXT], "taken": [SHORT, (0, 0), (0, 2)], "least_splice": [TEXT, SHORT], "first_start": [TEXT, SHORT],
              "filling": [TEXT, SHORT, (0, 0), (3, 4)]},
    "patches": {"Patch": [SHORT, [((0, 0), (0, 2), TEXT)]], "patches_part": [PATCH, Patch(SHORT, [])], "undone": [PATCH], "then": [PATCH, undone(PATCH)], "merged": [PATCH, Patch(SHORT, [])],
                "after": [PATCH, Patch(SHORT, []), True]},
    "desks": {"Desk": [TEXT]},
    "lineforms": {"form_word": [(1, 2)], "read_form": [1, "1+n0"], "line_of": [TEXT], "read_line": [1, "ab*n0 c"], "wrong_sign": [1, "ab*"]},
    "numbering": {"weight": [TEXT], "how_many": [1, 7], "number_of": [TEXT], "numbered": [1, 10 ** 30]},
    "bits": {"bits_of": [TEXT], "read_bits": [1, "01000"]},
    "examples": {"fits": [TEXT, EXAMPLES], "simplest": [1, EXAMPLES, 9]},
    "learning": {"how_many_fit": [1, EXAMPLES], "fitting": [1, EXAMPLES], "next_point": [1, EXAMPLES]},
}


def shown(value):
    """A value as a string, with what the objects of the package hold."""
    if isinstance(value, (list, tuple)):
        return value.__class__.__name__ + "(" + ", ".join([shown(item) for item in value]) + ")"
    if value.__class__.__module__.startswith("countscribe"):
        return value.__class__.__name__ + shown([held for _, held in sorted(vars(value).items())])
    return repr(value)


def lists_within(value):
    """All lists that stand in a value."""
    if isinstance(value, (list, tuple)):
        own = [value] if isinstance(value, list) else []
        return own + [found for item in value for found in lists_within(item)]
    return []


class CallsTest(unittest.TestCase):
    def test_all_of_the_interface_is_called(self):
        for name, signatures in FUNCTIONS.items():
            names = [signature.split("(")[0] for signature in signatures]
            self.assertEqual(sorted(CALLS[name]), sorted([own for own in names if own != "Prices"]))
        self.assertEqual(sorted(CALLS), sorted(FUNCTIONS))

    def test_by_position_and_by_name(self):
        for module, rows in CALLS.items():
            held = importlib.import_module("countscribe." + module)
            for name, arguments in rows.items():
                call = getattr(held, name)
                before = shown(arguments)
                one = call(*arguments)
                other = call(**dict(zip(inspect.signature(call).parameters, arguments)))
                self.assertEqual(shown(one), shown(other), name)
                self.assertEqual(shown(arguments), before, name)
                # No list stands twice in what is returned, and none is one that was handed in.
                found = [id(row) for row in lists_within(one)]
                self.assertEqual(len(found), len(set(found)), name)
                self.assertFalse(set(found) & {id(row) for row in lists_within(arguments)}, name)
                self.kinds(one)
                for row in lists_within(one):
                    row.append("changed")
                self.assertEqual(shown(call(*arguments)), shown(other), name)

    def kinds(self, value):
        """What is returned is of the kinds of values that the document names."""
        if isinstance(value, (list, tuple)):
            self.assertIn(value.__class__, [list, tuple])
            for item in value:
                self.kinds(item)
        else:
            self.assertTrue(value is None or value.__class__ in [bool, int, str, OpenText, KeptWord, Line, Patch, Desk], value.__class__)

    def test_methods_by_position_and_by_name(self):
        prices = Prices(letter=1, sign=2, unknown=3, number=4)
        self.assertEqual([prices.of((1, 1, 1, 1)), prices.of(vector=(1, 1, 1, 1)), prices.letter, prices.sign, prices.unknown, prices.number], [10, 10, 1, 2, 3, 4])
        self.assertEqual([KEPT.letter(1), KEPT.letter(at=1), shown(KEPT.part(1, 4)), KEPT.part(1, 4).plain()], ["b", "b", shown(KEPT.part(low=1, high=4)), "bab"])
        for one, other in [(Desk(SHORT), Desk(SHORT))]:
            one.splice((0, 0), (0, 0), TEXT), other.splice(start=(0, 0), end=(0, 0), given=TEXT)
            one.mark("m", (0, 0), "left"), other.mark(name="m", place=(0, 0), side="left")
            one.bring(PATCH, 0), other.bring(patch=PATCH, since=0)
            one.unmark("m"), other.unmark(name="m")
            self.assertTrue(one == other and one.net(1) == other.net(since=1))
            one.undo(), one.redo()
            self.assertEqual([one.text() == other.text(), one.marks(), one.log() == other.log(), one.copy() == other], [True, [], True, True])
        self.assertEqual(sum([len(rows) for rows in METHODS.values()]), 1 + 11 + 5 + 3 + 3 + 2)


class ComingBackTest(unittest.TestCase):
    def check(self, text):
        many = text.many()
        self.assertEqual(read_line(many, line_of(text)), text)
        if weight(text) <= 60:
            self.assertEqual(numbered(many, number_of(text)), text)
            self.assertEqual(read_bits(many, bits_of(text) * 2), ([text, text], ""))
        if len(bare_word(text)) <= 40 and len(plain_spots(text)) <= 12:
            writer = least_writer(text)
            self.assertEqual(OpenText(many, writer), text)
            self.assertEqual(lean_by_number(text, number_of_lean(text, writer)), writer)
            self.assertEqual(number_of_lean(text, lean_by_number(text, how_many_lean(text) - 1)), how_many_lean(text) - 1)
        if size(text) <= 40:
            point = reading_point(many, size(text), spread(text))
            whole = kept(text, point)
            self.assertEqual(read_kept(many, size(text), spread(text), whole), text)
            if whole.length() <= 20000:
                self.assertEqual(read_back(many, size(text), spread(text), written(text, point)), text)

    def test_small_texts(self):
        for many, most in [(0, 4), (1, 4), (2, 3), (3, 3)]:
            for text in texts_of_weight(many, most, "ab"):
                self.check(text)

    def test_random_texts(self):
        chance = chances(310)
        for _ in range(200):
            many = chance.randint(0, 3)
            text, other = some_text(chance, many, 5, "abc"), some_text(chance, many, 5, "abc")
            self.check(text)
            start, end, given = least_splice(other, text)
            self.assertEqual(spliced(other, start, end, given), text)
            self.assertEqual(undone(Patch(other, [(start, end, given)])).result(), other)
            self.assertEqual(Patch(other, [(start, end, given)]).result(), text)

    def test_texts_come_back_from_their_words(self):
        """A text is the simplest one that fits enough of what it writes, unless a simpler one writes the same there."""
        chance = chances(311)
        for _ in range(100):
            many = chance.randint(0, 2)
            text = some_text(chance, many, 2)
            examples = [(point, written(text, point)) for point in all_points(many, 2) if len(written(text, point)) <= 12]
            if examples:
                found = simplest(many, examples, 99)
                self.assertTrue(fits(found, examples) and weight(found) <= weight(text))

    def test_equal_texts(self):
        """Lists of pieces that write the same have the same line, number, bits and cheapest writer."""
        chance = chances(312)
        for _ in range(200):
            many = chance.randint(0, 3)
            text = some_text(chance, many, 4)
            start = chance.choice([None, "a"])
            other = mirrored(mirrored(text)) if start is None else OpenText(many, joined(text, OpenText(many, [])).pieces() + [("", (1,) * (many + 1)), (start, (0,) * (many + 1))])
            self.assertEqual([line_of(text), length(text)], [line_of(other), length(other)])
            if weight(text) <= 60:
                self.assertEqual([number_of(text), bits_of(text)], [number_of(other), bits_of(other)])
            self.assertEqual(least_writer(text), least_writer(other))


if __name__ == "__main__":
    unittest.main()
