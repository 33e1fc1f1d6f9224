"""Forms and open texts as lines, and lines read as forms and open texts."""

from countscribe.checks import need_many
from countscribe.errors import InvalidLines
from countscribe.formtools import need_form, plain_form
from countscribe.piecetools import is_power
from countscribe.texts import OpenText, need_text

DIGITS = "0123456789"
LETTERS = "abcdefghijklmnopqrstuvwxyz"

# What has been read of a line last. The empty string stands for a sign that is wrong.
BLANK = "blank"
WORD = "word"
JOINT = "joint"
ZERO = "zero"
NUMBER = "number"
NAME = "name"
UNKNOWN = "unknown"
WRONG = ""


def form_word(form):
    """A form as it is written."""
    need_form(form)
    summands = [str(form[0])] if form[0] else []
    for at, number in enumerate(form[1:]):
        if number:
            summands.append(f"{'' if number == 1 else number}n{at}")
    return "+".join(summands) or "0"


def read_form(many, line):
    """The form for `many` unknowns that a line tells."""
    need_many(many)
    # What can stand behind a word and its joint without a blank is a form.
    if not isinstance(line, str) or " " in line or wrong_place(many, "a*" + line) is not None:
        raise InvalidLines(line)
    return form_told(many, line)


def form_told(many, line):
    """The form for `many` unknowns that a line tells which is known to be right."""
    numbers = list(plain_form(0, many))
    for summand in line.split("+"):
        number, name, at = summand.partition("n")
        numbers[int(at) + 1 if name else 0] += int(number) if number else 1
    return tuple(numbers)


def line_of(text):
    """An open text as a line of its normal pieces."""
    need_text(text)
    return " ".join([piece_word(piece) for piece in text.pieces()])


def piece_word(piece):
    """A piece of a normal list as it is written."""
    word, form = piece
    return f"{word}*{form_word(form)}" if is_power(piece) else word


def read_line(many, line):
    """The open text of the pieces that a line tells."""
    need_many(many)
    if not isinstance(line, str) or wrong_place(many, line) is not None:
        raise InvalidLines(line)
    return OpenText(many, [piece_told(many, part) for part in line.split(" ") if part])


def piece_told(many, part):
    """The piece that a part of a line tells which is known to be right."""
    word, joint, form = part.partition("*")
    return word, form_told(many, form) if joint else plain_form(1, many)


def wrong_sign(many, line):
    """The number of the first sign with which no line of pieces goes on, None for a line of pieces."""
    need_many(many)
    if not isinstance(line, str):
        raise InvalidLines(line)
    return wrong_place(many, line)


def wrong_place(many, line):
    """The number of the first sign with which no line of pieces goes on, or of all signs if there have to be more."""
    state = BLANK
    for at, sign in enumerate(line):
        state = state_behind(many, state, sign)
        if state == WRONG:
            return at
    return len(line) if state in (JOINT, NAME) else None


def state_behind(many, state, sign):
    """What has been read last behind a sign."""
    if state in (BLANK, WORD):
        return word_state(state, sign)
    if state == JOINT:
        return summand_state(many, sign)
    if state == NAME:
        return UNKNOWN if sign in DIGITS[:many] else WRONG
    if sign == "n" and state in (ZERO, NUMBER) and many:
        return NAME
    if sign in DIGITS:
        return NUMBER if state == NUMBER else WRONG
    if sign == "+":
        return JOINT
    return BLANK if sign == " " else WRONG


def word_state(state, sign):
    """What has been read last behind a sign that stands behind a blank or a letter of a word."""
    if sign in LETTERS:
        return WORD
    if sign == " ":
        return BLANK
    return JOINT if sign == "*" and state == WORD else WRONG


def summand_state(many, sign):
    """What has been read last behind the first sign of a summand."""
    if sign == "0":
        return ZERO
    if sign in DIGITS:
        return NUMBER
    return NAME if sign == "n" and many else WRONG
