"""[51]: the cheapest writers of open texts."""

import unittest

from countscribe.costs import Prices, cost
from countscribe.fronts import front
from countscribe.lean import is_lean, spots
from countscribe.plainwriters import least_plain
from countscribe.shortest import is_writer_paper, least_cost, least_writer, writer_paper
from countscribe.texts import OpenText, joined, written
from helper import FAR, all_points, answered_false, chances, refused, run_example, some_text, some_word, strange_values, told
from plainways import all_lean, bare_word, long_texts, plain_spots, small_groups, small_texts, vector_of

EXAMPLE = """
from countscribe.costs import Prices
from countscribe.shortest import is_writer_paper, least_cost, least_writer
from countscribe.texts import OpenText
text, small = OpenText(2, [("ab", (1, 1, 0)), ("b", (0, 0, 1))]), OpenText(1, [("a", (1, 1))])
[least_cost(text), least_writer(text), least_writer(small), least_writer(small, Prices(number=2))]
# [8, [('ab', (1, 1, 0)), ('b', (0, 0, 1))], [('a', (1, 1))], [('a', (0, 1)), ('a', (1, 0))]]
[is_writer_paper(small, None, (4, [("a", (1, 1))], [[0, 1], [3, 4]])), is_writer_paper(small, None, (4, [("a", (1, 1))], [[0, 1], [4, 4]]))]
# [True, False]
"""
PRICES = [None, Prices(), Prices(number=2), Prices(sign=0, unknown=0, number=0), Prices(letter=3), Prices(sign=3, number=0), Prices(letter=2, unknown=5, number=1),
          Prices(letter=FAR, sign=1, unknown=FAR, number=FAR + 1), Prices(sign=FAR)]


def is_text(value):
    return isinstance(value, OpenText)


def plain_cost(many, pieces, prices):
    held = prices or Prices()
    letters, signs, unknowns, numbers = vector_of(many, pieces)
    return letters * held.letter + signs * held.sign + unknowns * held.unknown + numbers * held.number


def is_bounding(text, prices, rows):
    """Whether the numbers of rows rise by no more than the pieces between cost, as [51] has it."""
    many, bare = text.many(), bare_word(text)
    zeros = (0,) * many
    for low in range(len(bare)):
        for size in range(1, len(bare) - low + 1):
            times = 1
            while low + size * times <= len(bare) and bare[low:low + size] * times == bare[low:low + size * times]:
                most = plain_cost(many, [(bare[low:low + size], (times,) + zeros)], prices)
                if any([row[low + size * times] - row[low] > most for row in rows]):
                    return False
                times += 1
    for index, (word, form, place, reach) in enumerate(plain_spots(text)):
        for low in range(place, reach + 1):
            for high in range(low, reach + 1, len(word)):
                most = plain_cost(many, [(word, ((high - low) // len(word),) + form[1:])], prices)
                if rows[index + 1][high] - rows[index][low] > most:
                    return False
    return True


class ExampleTest(unittest.TestCase):
    def test_example(self):
        run_example(self, EXAMPLE)


class PlainCheckTest(unittest.TestCase):
    def test_all_writers_of_small_texts(self):
        checked = 0
        for text, rows in small_groups():
            for prices in PRICES[checked % 2::2]:
                least = min([(plain_cost(text.many(), row, prices), len(row), row) for row in rows])
                self.assertEqual((least_cost(text, prices), least_writer(text, prices)), (least[0], least[2]))
            checked += 1
        self.assertGreater(checked, 400)

    def test_all_lean_writers(self):
        chance = chances(181)
        for text in small_texts(chance, 100, 5):
            rows = all_lean(text)
            for prices in PRICES:
                least = min([(plain_cost(text.many(), row, prices), len(row), row) for row in rows])
                self.assertEqual((least_cost(text, prices), least_writer(text, prices)), (least[0], least[2]))

    def test_larger_texts(self):
        chance = chances(182)
        for _ in range(200):
            text = some_text(chance, chance.randint(0, 3), 8, chance.choice(["a", "ab", "abc"]))
            for prices in chance.sample(PRICES, 3):
                writer = least_writer(text, prices)
                self.assertIs(is_lean(text, writer), True)
                self.assertEqual(cost(text.many(), writer, prices), least_cost(text, prices))
                self.assertLessEqual(least_cost(text, prices), cost(text.many(), text.pieces(), prices))
                held = prices or Prices()
                self.assertEqual(least_cost(text, prices), min([held.of(vector) for vector in front(text)]))

    def test_written_words_never_cost_more(self):
        chance = chances(183)
        for _ in range(60):
            text = some_text(chance, chance.randint(1, 2), 4)
            for prices in [None, Prices(unknown=3, number=2), Prices(letter=2, sign=0, unknown=1, number=0)]:
                for point in all_points(text.many(), 2):
                    word = written(text, point)
                    if len(word) <= 60:
                        self.assertLessEqual(least_plain(word, prices)[0], least_cost(text, prices))

    def test_texts_without_unknowns_cost_what_their_words_cost(self):
        chance = chances(184)
        for _ in range(60):
            word = some_word(chance, "ab", 0, 20)
            for prices in PRICES:
                least, writer = least_plain(word, prices)
                text = OpenText(0, [(word, (1,))])
                self.assertEqual((least_cost(text, prices), least_writer(text, prices)), (least, [(part, (times,)) for part, times in writer]))


class PaperTest(unittest.TestCase):
    def check(self, text, prices):
        paper = writer_paper(text, prices)
        least, writer, rows = paper
        self.assertEqual((least, cost(text.many(), writer, prices)), (least_cost(text, prices), least))
        self.assertIs(is_lean(text, writer), True)
        self.assertEqual([len(row) for row in rows], [len(bare_word(text)) + 1] * (len(spots(text)) + 1))
        self.assertEqual(rows[-1][-1] - rows[0][0], least)
        self.assertIs(is_writer_paper(text, prices, paper), True)
        return paper

    def test_papers(self):
        chance = chances(185)
        for text in small_texts(chance, 80, 6) + [some_text(chance, 2, 8) for _ in range(40)]:
            for prices in chance.sample(PRICES, 4):
                self.assertTrue(is_bounding(text, prices, self.check(text, prices)[2]))

    def test_papers_with_one_number_changed(self):
        chance = chances(186)
        seen = {True: 0, False: 0}
        for text in small_texts(chance, 80, 4) + [some_text(chance, 1, 5) for _ in range(20)]:
            prices = chance.choice(PRICES)
            least, writer, rows = self.check(text, prices)
            for index, row in enumerate(rows):
                for at in range(len(row)):
                    for by in [-1, 1, chance.choice([-FAR, FAR])]:
                        changed = rows[:index] + [row[:at] + [row[at] + by] + row[at + 1:]] + rows[index + 1:]
                        right = changed[-1][-1] - changed[0][0] == least and is_bounding(text, prices, changed)
                        self.assertIs(is_writer_paper(text, prices, (least, writer, changed)), right)
                        seen[right] += 1
            for wrong in [least + 1, least - 1, None, [least], str(least)]:
                self.assertIs(is_writer_paper(text, prices, (wrong, writer, rows)), False)
            for wrong in [writer + [("a", (1,) + (0,) * text.many())], writer[1:] if writer else None, tuple(writer), None]:
                self.assertIs(is_writer_paper(text, prices, (least, wrong, rows)), False)
            for wrong in [rows[1:], rows + rows[:1], [row + [0] for row in rows], [row[1:] for row in rows], tuple(rows), [tuple(row) for row in rows], None, []]:
                self.assertIs(is_writer_paper(text, prices, (least, writer, wrong)), False)
        self.assertGreater(min(seen.values()), 100)

    def test_dearer_writers(self):
        chance = chances(187)
        for text in small_texts(chance, 40, 4):
            least, _, rows = writer_paper(text)
            for writer in all_lean(text)[:60]:
                own = plain_cost(text.many(), writer, None)
                self.assertIs(is_writer_paper(text, None, (least, writer, rows)), own == least)
                if own > least:
                    moved = [[number + own - least for number in row] if index == len(rows) - 1 else row for index, row in enumerate(rows)]
                    self.assertIs(is_writer_paper(text, None, (own, writer, moved)), False)
        self.assertIs(is_writer_paper(OpenText(1, [("ab", (0, 1))]), None, (4, [("ab", (0, 1))], [[7], [11]])), True)

    def test_writers_that_are_not_lean(self):
        text = OpenText(1, [("a", (0, 1)), ("aa", (1, 0))])
        least, _, rows = writer_paper(text, Prices(sign=0, unknown=0, number=0))
        prices = Prices(sign=0, unknown=0, number=0)
        self.assertEqual(least, 1)
        self.assertIs(is_writer_paper(text, prices, (1, [("a", (2, 1))], rows)), True)
        self.assertIs(is_writer_paper(text, prices, (1, [("a", (2, 1)), ("", (3, 0))], rows)), False)

    def test_values_of_every_kind(self):
        small = OpenText(1, [("a", (1, 1))])
        good = (4, [("a", (1, 1))], [[0, 1], [3, 4]])
        self.assertIs(is_writer_paper(small, None, good), True)
        answered_false(self, lambda value: False, lambda value: is_writer_paper(small, None, value))
        for value in strange_values():
            for at in range(3):
                self.assertIs(is_writer_paper(small, None, good[:at] + (value,) + good[at + 1:]), False)
            for rows in [[value, [3, 4]], [[0, 1], value], [[value, 1], [3, 4]], [[0, 1], [3, value]]]:
                self.assertIs(is_writer_paper(small, None, (4, good[1], rows)), rows == good[2] and value is not True and value is not False)
            self.assertIs(is_writer_paper(small, None, (4, [value], good[2])), False)
        for value in [list(good), good + (0,), good[:2], (4, good[1], [[0, 1], [3, True]])]:
            self.assertIs(is_writer_paper(small, None, value), False)
        self.assertIs(is_writer_paper(OpenText(0, []), None, (0, [], [[0]])), True)
        self.assertIs(is_writer_paper(OpenText(0, []), None, (False, [], [[0]])), False)


class EdgesTest(unittest.TestCase):
    def test_the_empty_text_and_texts_without_a_power(self):
        for many in range(4):
            none = OpenText(many, [])
            self.assertEqual([least_cost(none), least_writer(none), writer_paper(none)[:2], [len(row) for row in writer_paper(none)[2]]], [0, [], (0, []), [1]])
            word = OpenText(many, [("abab", (1,) + (0,) * many)])
            self.assertEqual([least_cost(word), least_writer(word), least_writer(word, Prices(sign=2))],
                             [4, [("ab", (2,) + (0,) * many)], [("abab", (1,) + (0,) * many)]])

    def test_one_writer_for_equal_texts(self):
        one, other = OpenText(1, [("ab", (1, 1)), ("a", (1, 0))]), OpenText(1, [("a", (1, 0)), ("ba", (1, 1))])
        self.assertEqual(one, other)
        self.assertEqual(least_writer(one), least_writer(other))

    def test_powers_alone(self):
        text = OpenText(3, [("ab", (0, FAR, 0, 2)), ("a", (0, 0, 1, 0))])
        self.assertEqual([least_cost(text), least_writer(text)], [8, [("ab", (0, FAR, 0, 2)), ("a", (0, 0, 1, 0))]])

    def test_near_the_limits(self):
        for text in long_texts(120):
            self.assertEqual([len(spots(text)), len(bare_word(text))], [12, 120])
            for prices in [None, Prices(letter=FAR, sign=3, unknown=FAR, number=10 ** 28)]:
                paper = writer_paper(text, prices)
                self.assertIs(is_writer_paper(text, prices, paper), True)
                self.assertEqual([least_cost(text, prices), cost(3, least_writer(text, prices), prices)], [paper[0]] * 2)
        word = OpenText(0, [("a" * 120, (1,))])
        self.assertEqual(least_writer(word), [("a", (120,))])


class WrongInputsTest(unittest.TestCase):
    def test_texts_and_prices(self):
        text = OpenText(1, [("a", (0, 1))])
        for call in [least_cost, least_writer, writer_paper, lambda value, prices=None: is_writer_paper(value, prices, None)]:
            refused(self, "InvalidText", is_text, call)
            refused(self, "InvalidPrices", lambda value: value is None or isinstance(value, Prices), lambda value: call(text, value))
            one, other = ["x"], ["y"]
            told(self, "InvalidText", one, call, one, other)

    def test_by_names_and_objects_stay(self):
        text, prices = OpenText(1, [("ab", (1, 1))]), Prices(number=3)
        found = [least_cost(text=text, prices=prices), least_writer(text=text, prices=prices), writer_paper(text=text, prices=prices)]
        again = [least_cost(text, prices), least_writer(text, prices), writer_paper(text, prices)]
        self.assertEqual(found, again)
        self.assertEqual(len({id(row) for row in found[2][2]}), len(found[2][2]))
        found[1].append(1), found[2][1].append(1), found[2][2][0].append(1), found[2][2].append(1)
        self.assertEqual(again, [least_cost(text, prices), least_writer(text, prices), writer_paper(text, prices)])
        self.assertIs(is_writer_paper(text=text, prices=prices, value=again[2]), True)
        self.assertEqual([text, prices.number, prices.letter], [OpenText(1, [("ab", (1, 1))]), 3, 1])
        self.assertEqual(joined(text, OpenText(1, [])), text)


if __name__ == "__main__":
    unittest.main()
