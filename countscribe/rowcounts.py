"""How many normal lists of pieces there are of each weight, and how many ways there are to go on with one."""

HOW_MANY_LETTERS = 26


class RowCounts:
    """For each weight up to some weight how many ways there are to go on with a normal list by so much weight.

    `free` counts all that may begin with anything. `fixed` counts those that may stand behind one and the same fixed
    piece, and `starts` those that begin with a power of one and the same word, by the number of letters of this word;
    by the letters themselves no two words differ in this. `digits` tells how many lists of so many numbers have so
    many binary digits together, `words` how many words there are of so many letters, and `roots` how many of them are
    no shorter word taken several times.
    """

    def __init__(self, unknowns):
        self.unknowns = unknowns
        self.digits = [[1] for _ in range(unknowns + 1)]
        self.words = [1]
        self.roots = [0]
        self.free = [1]
        self.fixed = [1]
        self.starts = [[0]]

    def grow(self):
        """Count for the next weight too."""
        weight = len(self.free)
        self.digits = grown_digits(self.digits)
        self.words.append(self.words[-1] * HOW_MANY_LETTERS)
        shorter = [self.roots[size] for size in range(1, weight) if weight % size == 0]
        self.roots.append(self.words[weight] - sum(shorter))
        starts = [0] + [self.many_forms(size, weight - size, self.unknowns, False) for size in range(1, weight + 1)]
        powers = sum([self.roots[size] * starts[size] for size in range(1, weight + 1)])
        words = sum([self.words[size] * self.fixed[weight - size] for size in range(1, weight + 1)])
        self.starts.append(starts)
        # Of the words of powers, just as many end with each letter, and one letter may not stand behind a fixed piece.
        self.fixed.append(powers // HOW_MANY_LETTERS * (HOW_MANY_LETTERS - 1))
        self.free.append(words + powers)

    def behind_power(self, size, weight):
        """How many ways there are to go on behind a power with a word of so many letters."""
        return self.free[weight] - (self.starts[weight][size] if size <= weight else 0)

    def many_forms(self, size, weight, many, is_open):
        """How many ways there are to give so many numbers to a power and to go on behind it.

        One of the numbers has to be above 0, unless one ahead of them is.
        """
        least = 0 if is_open else 1
        rows = self.digits[many]
        return sum([rows[own] * self.behind_power(size, weight - own) for own in range(least, weight + 1)])


def grown_digits(rows):
    """The rows that tell how many lists of numbers have so many binary digits together, with one more digit each."""
    found = [rows[0] + [0]]
    for ahead, own in zip(rows, rows[1:]):
        most = len(own)
        # The last number has no digits, or it has some and there are so many such numbers.
        ways = [(1 << (size - 1)) * ahead[most - size] for size in range(1, most + 1)]
        found.append(own + [found[-1][most] + sum(ways)])
    return found
