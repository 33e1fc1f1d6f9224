"""The names, arguments and methods of the interface, each defined in the file under which it is listed."""

import importlib
import inspect
import unittest

FUNCTIONS = {
    "words": ["is_word(value)", "turned(word, by)", "root(word)", "period(word)", "common_start(one, other)",
              "common_end(one, other)", "goes_on(word, text)", "places(part, text)", "least_turn(word)"],
    "kept": ["KeptWord(pieces)", "joined_kept(one, other)", "mirrored_kept(kept)"],
    "keptorder": ["agree(one, other)", "compare(one, other)", "same_kept(one, other)", "many_places(part, kept)",
                  "kept_place(part, kept, number)", "kept_root(kept)", "turned_kept(kept, by)", "least_kept_turn(kept)",
                  "is_turn_of(one, other)"],
    "forms": ["is_form(many, value)", "value(form, point)", "added(one, other)", "scaled(number, form)", "below(one, other)",
              "inserted(form, many, forms)"],
    "pieces": ["normal(many, pieces)", "is_normal(many, value)"],
    "texts": ["OpenText(many, pieces)", "size(text)", "spread(text)", "unknowns(text)", "written(text, point)",
              "kept(text, point)", "length(text)", "letters(text, letter)", "joined(one, other)", "repeated(text, times)",
              "mirrored(text)", "mapped(text, images)", "replaced(text, many, forms)"],
    "alike": ["decisive(one, other)", "parting(one, other)"],
    "shifts": ["later(text, at, by)", "earlier(text, at)", "thinned(text, at, by)", "first(text, at)"],
    "rings": ["same_ring(one, other)", "ring_point(one, other)", "ring(text)"],
    "places": ["is_open_place(text, value)", "how_many_places(text)", "open_place(text, number)", "place_number(text, place)",
               "place_below(text, form)", "place_above(text, form)"],
    "cuts": ["cut(text, place)", "parts(text, places)"],
    "roots": ["greatest_root(text)", "common_root(one, other)"],
    "beginnings": ["begins(text, start)", "ends(text, end)", "common_beginning(one, other)", "common_ending(one, other)",
                   "stripped(one, other)"],
    "runs": ["is_run(value)", "least_run(first, start, slope)", "run_value(run, number)", "run_sum(one, other)",
             "run_lesser(one, other)", "run_meetings(one, other)", "is_wheel(value)", "least_wheel(first, turn)",
             "wheel_value(wheel, number)"],
    "growths": ["is_growth(many, value)", "least_growth(limits, values, slopes)", "growth_value(growth, point)",
                "growth_along(growth, line)"],
    "lines": ["Line(base, step)", "point_at(line, number)", "place_on(line, point)", "along(text, line)",
              "letters_along(text, place)"],
    "occurrences": ["occurrences(text, part)", "place_along(text, part, number)", "last_along(text, part, number)",
                    "standing_at(text, part)", "missing_at(text, part)", "parts_of(text, number)"],
    "costs": ["Prices(*, letter=1, sign=1, unknown=1, number=1)", "vector(many, pieces)", "cost(many, pieces, prices=None)"],
    "plainwriters": ["least_plain(word, prices=None)", "plain_front(word)", "plain_paper(word, prices=None)",
                     "is_plain_paper(word, prices, value)"],
    "lean": ["spots(text)", "placed(text, starts, copies)", "is_lean(text, value)", "places_of(text, value)", "leaned(many, pieces)"],
    "shortest": ["least_cost(text, prices=None)", "least_writer(text, prices=None)", "writer_paper(text, prices=None)",
                 "is_writer_paper(text, prices, value)"],
    "fronts": ["front(text)", "front_writer(text, vector)"],
    "leancounts": ["how_many_lean(text)", "lean_by_number(text, number)", "number_of_lean(text, value)"],
    "shared": ["agreeing(one, other)", "shared(one, other)", "shared_text(one, other)"],
    "pointsof": ["points_of(text, word)", "shared_words(texts, most)"],
    "readback": ["reading_point(many, size, spread)", "read_back(many, size, spread, word)", "read_kept(many, size, spread, kept)"],
    "marks": ["in_order(many, one, other)", "torn_points(many, one, other)", "least_place(many, one, other)",
              "greatest_place(many, one, other)", "mark_moved(many, place, side, start, end, length)"],
    "edits": ["spliced(text, start, end, given)", "put(text, place, given)", "taken(text, start, end)", "least_splice(old, new)",
              "first_start(old, new)", "filling(old, new, start, end)"],
    "patches": ["Patch(text, splices)", "patches_part(one, other)", "undone(patch)", "then(first, second)", "merged(one, other)",
                "after(one, other, first)"],
    "desks": ["Desk(text)"],
    "lineforms": ["form_word(form)", "read_form(many, line)", "line_of(text)", "read_line(many, line)", "wrong_sign(many, line)"],
    "numbering": ["weight(text)", "how_many(many, weight)", "number_of(text)", "numbered(many, number)"],
    "bits": ["bits_of(text)", "read_bits(many, bits)"],
    "examples": ["fits(text, examples)", "simplest(many, examples, most)"],
    "learning": ["how_many_fit(many, examples)", "fitting(many, examples)", "next_point(many, examples)"],
    "order": ["agreement(one, other)", "order_along(one, other)", "ranks_along(texts)"],
}
METHODS = {
    ("kept", "KeptWord"): ["pieces(self)", "length(self)", "letter(self, at)", "part(self, low, high)", "plain(self)"],
    ("texts", "OpenText"): ["many(self)", "pieces(self)"],
    ("costs", "Prices"): ["of(self, vector)"],
    ("lines", "Line"): ["many(self)", "base(self)", "step(self)"],
    ("patches", "Patch"): ["text(self)", "splices(self)", "result(self)"],
    ("desks", "Desk"): ["text(self)", "marks(self)", "splice(self, start, end, given)", "mark(self, name, place, side)", "unmark(self, name)",
                        "undo(self)", "redo(self)", "log(self)", "net(self, since)", "bring(self, patch, since)", "copy(self)"],
}


class InterfaceTest(unittest.TestCase):
    def test_functions_and_classes(self):
        for name, signatures in FUNCTIONS.items():
            module = importlib.import_module("countscribe." + name)
            for signature in signatures:
                found = getattr(module, signature.split("(")[0])
                self.assertEqual(found.__module__, "countscribe." + name)
                self.assertEqual(found.__name__ + str(inspect.signature(found)), signature)

    def test_methods(self):
        for (name, owner), signatures in METHODS.items():
            held = getattr(importlib.import_module("countscribe." + name), owner)
            for signature in signatures:
                found = vars(held)[signature.split("(")[0]]
                self.assertEqual(found.__name__ + str(inspect.signature(found)), signature)


if __name__ == "__main__":
    unittest.main()
