"""Plain writers: the cheapest ways to put a word down as words with the numbers of times that they are taken."""

from countscribe.bestways import are_paper_rows, best_pieces, best_rests, paper_rows
from countscribe.checks import MOST_LETTERS, is_count, is_lettered, is_whole, need_word
from countscribe.costs import chosen_prices, vector_of
from countscribe.frontways import all_steps, front_rows


def least_plain(word, prices=None):
    """The least cost of a plain writer of a word, and the first one in order of the shortest that cost this."""
    need_word(word)
    rests = best_rests(word, [], 0, chosen_prices(prices))
    return rests[0][0][0], plain_pairs(best_pieces(rests))


def plain_pairs(pieces):
    """The words of pieces for no unknowns with their numbers of times."""
    return [(part, form[0]) for part, form in pieces]


def plain_front(word):
    """All pairs of letters and signs of plain writers beside which no other pair is at most as great in both."""
    need_word(word)
    found = front_rows(word, all_steps(word, [], 0))[0][0]
    return [(letters, signs) for letters, signs, _, _ in found]


def plain_paper(word, prices=None):
    """The least cost of a plain writer of a word, such a writer, and values that prove that none costs less."""
    need_word(word)
    rests = best_rests(word, [], 0, chosen_prices(prices))
    return rests[0][0][0], plain_pairs(best_pieces(rests)), paper_rows(rests)[0]


def is_plain_paper(word, prices, value):
    """Whether a value is a cost, a plain writer of a word that costs this, and values that prove it least."""
    need_word(word)
    chosen = chosen_prices(prices)
    if not isinstance(value, tuple) or len(value) != 3:
        return False
    total, writer, numbers = value
    if not is_plain_writer(word, writer) or not is_row(numbers, len(word) + 1):
        return False
    if not is_whole(total) or not total == numbers[-1] - numbers[0] == plain_cost(writer, chosen):
        return False
    return are_paper_rows([numbers], word, [], 0, chosen)


def is_row(value, size):
    """Whether a value is a list of so many whole numbers."""
    return isinstance(value, list) and len(value) == size and all([is_whole(number) for number in value])


def plain_cost(writer, prices):
    """What a plain writer costs."""
    return prices.of(vector_of([(part, (times,)) for part, times in writer]))


def is_plain_tuple(value):
    """Whether a value is a tuple of a word that is not empty and a number of at least 1."""
    if not isinstance(value, tuple) or len(value) != 2:
        return False
    return is_lettered(value[0], MOST_LETTERS) and value[0] != "" and is_count(value[1]) and value[1] > 0


def is_plain_writer(word, value):
    """Whether a value is a plain writer of a word."""
    if not isinstance(value, list) or not all([is_plain_tuple(item) for item in value]):
        return False
    # The numbers may be much too great to be written out.
    if sum([len(part) * times for part, times in value]) != len(word):
        return False
    return "".join([part * times for part, times in value]) == word
