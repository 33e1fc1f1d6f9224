"""[70], [71]: forms and texts as lines."""

import unittest
from itertools import product

from countscribe.lineforms import form_word, line_of, read_form, read_line, wrong_sign
from countscribe.texts import OpenText
from helper import FAR, all_points, chances, is_number, refused, run_example, some_pieces, some_text, strange_values, told, value_at, word_at

EXAMPLE = """
from countscribe.lineforms import form_word, line_of, read_form, read_line, wrong_sign
from countscribe.texts import OpenText
[form_word((2, 3, 1)), form_word((0, 0)), read_form(2, "n0+2+0n1+11n0"), line_of(OpenText(2, [("xb", (1, 0, 0)), ("ab", (0, 2, 1))]))]
# ['2+3n0+n1', '0', (2, 12, 0), 'x ba*2n0+n1 b']
[read_line(2, "  xb ab*n0+n1+n0 ") == read_line(2, "x ba*2n0+n1 b"), read_line(1, "ab*1+n0").pieces(), read_line(0, "").pieces(), read_line(0, "ab*3").pieces()]
# [True, [('ab', (0, 1)), ('ab', (1, 0))], [], [('ababab', (1,))]]
[wrong_sign(2, line) for line in ["ab*n1", "ab*n2", "ab*", "ab*01", "ab*3n", "*3", "ab *3", "a+b"]]
# [None, 4, 3, 4, 5, 0, 3, 1]
[wrong_sign(0, "a*n0"), wrong_sign(1, "a*n0"), wrong_sign(1, "a*n01")]
# [2, None, 4]
"""
SIGNS = "ab01n9+* "


def is_number_word(part):
    return part != "" and all([sign in "0123456789" for sign in part]) and (part == "0" or part[0] != "0")


def is_summand(many, part):
    """Whether a part of a line is a number, or one, perhaps left out, and an unknown."""
    if "n" not in part:
        return is_number_word(part)
    number, _, name = part.partition("n")
    return name in [str(at) for at in range(many)] and (number == "" or is_number_word(number))


def is_form_line(many, line):
    return all([is_summand(many, part) for part in line.split("+")])


def is_line(many, line):
    """Whether a string is a line of pieces, as [70] has it."""
    for part in line.split(" "):
        word, joint, form = part.partition("*")
        if part and (not word or not all(["a" <= sign <= "z" for sign in word]) or (joint and not is_form_line(many, form))):
            return False
    return True


def some_line(chance, many, pieces):
    """A line that tells some pieces, in one of many ways."""
    parts = []
    for word, form in pieces:
        summands = []
        for at, number in enumerate(form):
            name = "" if at == 0 else "n%d" % (at - 1)
            for own in [number // 2, number - number // 2] if number > 1 and chance.random() < 0.5 else [number]:
                if own or chance.random() < 0.2:
                    summands.append(name if own == 1 and name and chance.random() < 0.7 else "%d%s" % (own, name))
        chance.shuffle(summands)
        plain = form == (1,) + (0,) * many and chance.random() < 0.7
        parts.append(word if plain else word + "*" + ("+".join(summands) or "0"))
    line = " " * chance.randint(0, 2)
    for at, part in enumerate(parts):
        line += (" " * chance.randint(1, 2) if at else "") + part
    return line + " " * chance.randint(0, 2)


class ExampleTest(unittest.TestCase):
    def test_example(self):
        run_example(self, EXAMPLE)


class FormsTest(unittest.TestCase):
    def test_written_and_read_again(self):
        for many in range(4):
            for form in product([0, 1, 2, 10, 10 ** 39], repeat=many + 1):
                line = form_word(form)
                self.assertEqual(read_form(many, line), form)
                self.assertTrue(is_form_line(many, line))
        self.assertEqual([form_word((0,)), form_word((1,)), form_word((0, 0, 0, 0)), form_word((0, 1, 0, 10)), form_word((1, 1, 1, 1)), form_word((10, 0, FAR))],
                         ["0", "1", "0", "n0+10n2", "1+n0+n1+n2", "10+%dn1" % FAR])

    def test_all_short_lines(self):
        counts = {True: 0, False: 0}
        for many in range(4):
            for size in range(5):
                for signs in product("012n+ ", repeat=size):
                    line = "".join(signs)
                    right = is_form_line(many, line)
                    counts[right] += 1
                    if right:
                        form = read_form(many, line)
                        self.assertEqual(len(form), many + 1)
                        for point in all_points(many, 2):
                            # Read by Python: 3n1 is 3 times the count.
                            summands = [part.partition("n") for part in line.split("+")]
                            total = sum([int(number or 1) * (point[int(name)] if joint else 1) for number, joint, name in summands])
                            self.assertEqual(value_at(form, point), total)
                    else:
                        told(self, "InvalidLines", line, read_form, many, line)
        self.assertGreater(min(counts.values()), 500)

    def test_zeros_parts_and_any_order(self):
        self.assertEqual([read_form(3, "n2+3+n0+0n1+4n2+0+1"), read_form(2, "0n0"), read_form(0, "0+0+7"), read_form(1, "0"), read_form(2, "1n1+0n1")], [(4, 1, 0, 5), (0, 0, 0), (7,), (0, 0), (0, 0, 1)])
        number = "9" * 40
        self.assertEqual([read_form(1, number + "+" + number + "n0"), form_word((int(number), int(number)))], [(int(number), int(number)), number + "+" + number + "n0"])
        for line in ["", "+", "1+", "+1", "00", "01", "n", "nn0", "n01", "n3", "1 ", " 1", "1n", "n0n1", "1*2", "a", "-1", "1+ 2", "N0", "n0\n", "1.0", "01n0", "n 0", "1++2", "2*n0"]:
            told(self, "InvalidLines", line, read_form, 3, line)


class LinesTest(unittest.TestCase):
    def test_written_and_read_again(self):
        chance = chances(260)
        for _ in range(600):
            many = chance.randint(0, 3)
            text = some_text(chance, many, 5, "abxz")
            line = line_of(text)
            self.assertEqual(read_line(many, line), text)
            self.assertIsNone(wrong_sign(many, line))
            self.assertEqual(line, " ".join([word if form[0] else word + "*" + form_word(form) for word, form in text.pieces()]))

    def test_read_in_any_way(self):
        chance = chances(261)
        for _ in range(600):
            many = chance.randint(0, 3)
            pieces = [(word, form) for word, form in some_pieces(chance, many, 5, "abz") if word]
            line = some_line(chance, many, pieces)
            self.assertTrue(is_line(many, line))
            found = read_line(many, line)
            self.assertEqual(found, OpenText(many, pieces), line)
            for point in all_points(many, 1):
                self.assertEqual(word_at(found.pieces(), point), word_at(pieces, point))

    def test_blanks_and_no_pieces(self):
        for many in range(4):
            self.assertEqual([read_line(many, line).pieces() for line in ["", " ", " " * 50, "a*0", " a*0  b*0 "]], [[]] * 5)
            self.assertEqual([line_of(OpenText(many, [])), line_of(OpenText(many, [("ab", (1,) + (0,) * many)]))], ["", "ab"])
            self.assertEqual([read_line(many, line) for line in ["ab c", "  ab   c ", "ab*1 c*1", "ab c*1+0"]], [OpenText(many, [("abc", (1,) + (0,) * many)])] * 4)

    def test_limits(self):
        self.assertEqual(read_line(0, "a" * 2000).pieces(), [("a" * 2000, (1,))])
        told(self, "TooLong", 2001, read_line, 0, "a" * 1000 + " " + "b" * 1001)
        told(self, "TooLong", 2001, read_line, 1, "ab*999+n0 a")
        self.assertEqual(len(read_line(1, "ab*999+n0").pieces()), 2)
        long = "x*2 " + "a" * 2001 + "*n0"
        self.piece_told(1, long, ("a" * 2001, (0, 1)))
        self.piece_told(2, "a" * 5000 + " b", ("a" * 5000, (1, 0, 0)))
        self.assertEqual(read_line(1, "a*0 " * 5000).pieces(), [])
        told(self, "TooLong", 2001, read_line, 0, "a " * 2001)
        try:
            read_line(1, "a*0 " * 5001)
            self.fail("too many")
        except ValueError as error:
            self.assertEqual([error.__class__.__name__, len(error.value), error.value[0]], ["InvalidPieces", 5001, ("a", (0, 0))])
        self.assertIsNone(wrong_sign(1, "a*0 " * 6000 + "b" * 3000))

    def piece_told(self, many, line, piece):
        try:
            read_line(many, line)
        except ValueError as error:
            self.assertEqual([error.__class__.__name__, error.value], ["InvalidPiece", piece])
            return
        self.fail(line)


class WrongSignsTest(unittest.TestCase):
    def can_go_on(self, many, line):
        """Whether some line of pieces begins with a line: if it is one with a few more signs."""
        return any([is_line(many, line + more) for more in ["", "a", "0", "n0", "1"]])

    def test_all_short_lines(self):
        """By trying to go on behind each sign."""
        found = {}
        for many in [0, 1, 2]:
            for size in range(6):
                for signs in product("a02n1+* "[:8 if size < 5 else 7], repeat=size):
                    line = "".join(signs)
                    if is_line(many, line):
                        right = None
                        read_line(many, line)
                    else:
                        right = next((at for at in range(size) if not self.can_go_on(many, line[:at + 1])), size)
                        if size < 4:
                            told(self, "InvalidLines", line, read_line, many, line)
                    self.assertEqual(wrong_sign(many, line), right, line)
                    found[right] = found.get(right, 0) + 1
        self.assertGreater(min(found.values()), 10)

    def test_all_signs_behind_all_beginnings(self):
        """For each state ahead of a sign, each sign that can be written."""
        signs = [chr(code) for code in range(128)]
        digits, letters = set("0123456789"), set("abcdefghijklmnopqrstuvwxyz")
        for many in range(4):
            names = set("012"[:many])
            unknown = {"n"} if many else set()
            rows = [
                ("", letters | {" "}), ("a b ", letters | {" "}), ("xy", letters | {" ", "*"}), ("a*", digits | unknown), ("a*4+", digits | unknown), ("a*0", {" ", "+"} | unknown),
                ("a*10", digits | {" ", "+"} | unknown), ("a*4+1", digits | {" ", "+"} | unknown),
            ]
            if many:
                rows.extend([("a*n", names), ("a*3+4n", names), ("a*0n", names), ("a*n0", {" ", "+"}), ("a*0n0", {" ", "+"}), ("a*n0+2n0", {" ", "+"})])
            for line, allowed in rows:
                for sign in signs:
                    found = wrong_sign(many, line + sign)
                    if sign in allowed:
                        self.assertIn(found, [None, len(line) + 1], (many, line + sign))
                    else:
                        self.assertEqual(found, len(line), (many, line + sign))
                    told_or_read = is_line(many, line + sign)
                    self.assertIs(found is None, told_or_read)

    def test_behind_the_first_wrong_sign_nothing_counts(self):
        for line, at in [("a-", 1), ("A", 0), ("ab*n0 b*x c**", 8), ("ab*n0 b*x", 8), ("ab\tc", 2), ("a*00 b", 3), ("a*n9", 3), ("a*2 3", 4), ("a* 2", 2), ("a*2+ b", 4)]:
            self.assertEqual([wrong_sign(1, line), wrong_sign(1, line + "??")], [at, at])
        self.assertEqual([wrong_sign(1, "a*n"), wrong_sign(1, "a*2+"), wrong_sign(1, "a*2n"), wrong_sign(3, "a*n2"), wrong_sign(2, "a*n2")], [3, 4, 4, None, 3])


class WrongInputsTest(unittest.TestCase):
    def test_forms_and_texts(self):
        def is_some_form(value):
            return isinstance(value, tuple) and 1 <= len(value) <= 4 and all([is_number(number, 0, 10 ** 99) for number in value])

        refused(self, "InvalidForm", is_some_form, form_word)
        refused(self, "InvalidText", lambda value: isinstance(value, OpenText), line_of)

    def test_lines(self):
        for call in [read_form, read_line, wrong_sign]:
            refused(self, "InvalidNumber", lambda value: is_number(value, 0, 3), lambda value: call(value, None))
        refused(self, "InvalidLines", lambda value: isinstance(value, str) and is_form_line(1, value), lambda value: read_form(1, value))
        refused(self, "InvalidLines", lambda value: isinstance(value, str), lambda value: wrong_sign(1, value))
        for value in strange_values():
            if not (isinstance(value, str) and is_line(1, value)):
                told(self, "InvalidLines", value, read_line, 1, value)
        for line in ["a*n1", "a*", "a*n0+", "a*-1", "a*1 *", "a,b", "ab*n0n0"]:
            told(self, "InvalidLines", line, read_line, 1, line)

    def test_by_names(self):
        self.assertEqual([form_word(form=(1, 2)), read_form(many=1, line="1+2n0"), wrong_sign(many=1, line="a b")], ["1+2n0", (1, 2), None])
        self.assertEqual([line_of(text=read_line(many=1, line="ab ab*n0"))], ["ab*n0 ab"])


if __name__ == "__main__":
    unittest.main()
