"""[36] to [38]: numbers and letters along one count."""

import unittest

from countscribe.runs import (
    is_run, is_wheel, least_run, least_wheel, run_lesser, run_meetings, run_sum, run_value, wheel_value,
)
from helper import FAR, answered_false, chances, is_number, refused, run_example, strange_values, told

EXAMPLE = """
from countscribe.runs import is_run, is_wheel, least_run, least_wheel, run_lesser, run_meetings, run_sum, run_value, wheel_value
[least_run([None, 1, 3], 5, 2), least_run([None], None, 0), run_value(([None], 1, 2), 10 ** 20), is_run(([1], 3, 2)), is_run(([], None, 1))]
# [([None], 1, 2), ([], None, 0), 199999999999999999999, False, False]
[run_sum(([1], 2, 2), ([], 1, 0)), run_sum(([None], 1, 2), ([], 1, 0)), run_lesser(([], 0, 2), ([], 3, 1)), run_lesser(([None], 1, 2), ([], None, 0))]
# [([2], 3, 2), ([None], 2, 2), ([0, 2, 4], 6, 1), ([None], 1, 2)]
[run_meetings(([], 0, 2), ([], 3, 1)), run_meetings(([0, 2, 4], 6, 1), ([], 3, 1)), run_meetings(([], 1, 2), ([], 0, 2))]
# [([3], None), ([], 3), ([], None)]
[least_wheel(["c", "b"], ["a", "b", "a", "b"]), wheel_value((["c"], ["b", "a"]), 10 ** 20), is_wheel(([], ["a", "a"]))]
# [(['c'], ['b', 'a']), 'a', False]
"""
# Runs that have the right parts, but are not least, or not runs.
NO_RUNS = [
    ([1], 3, 2), ([], None, 1), ([None], None, 0), ([1, None], None, 0), ([5], 5, 0), ([7, 3], 2, -1), ([True], 1, 0), ([], True, 0),
    ([], 1, False), ([], 1, None), ([], None, None), ((), 1, 0), ([1.5], 1, 0), (["a"], 1, 0), ([[]], 1, 0), ([], 1), ([], 1, 0, 0), [[], 1, 0],
]
NO_WHEELS = [
    ([], ["a", "a"]), (["a"], ["a"]), (["b", "a"], ["b", "a"]), (["b"], ["a", "b"]), ([], []), (["a"], []), ([], [None, None]), ([None], [None]),
    ([], ["a", "b", "a", "b"]), ([], ["aa"]), ([], [""]), ([], ["A"]), ([], [0]), ([0], ["a"]), ([], ("a",)), ((), ["a"]), ([], "a"), ("", ["a"]),
    ([], ["a"], []), ([],), [[], ["a"]], (["b", ["a"]], ["a"]), ([True], ["a"]),
]


def plain_value(first, start, slope, count):
    """The value of a run at a count, as [36] has it."""
    if count < len(first):
        return first[count]
    return None if start is None else start + slope * (count - len(first))


def values_of(run, most=30):
    return [plain_value(*run, count) for count in range(most)]


def some_run(chance, most=6):
    """A run that need not be least, with small numbers."""
    slope = chance.randint(-3, 3)
    first = [chance.choice([None, 0, 1, 2, 3, chance.randint(-9, 9)]) for _ in range(chance.randint(0, most))]
    if chance.random() < 0.2:
        return first + [None] * chance.randint(0, 2), None, 0
    start = chance.randint(-9, 9)
    steps = chance.randint(0, 3)
    return first + [start + slope * step for step in range(steps)], start + slope * steps, slope


def least(chance, most=6):
    return least_run(*some_run(chance, most))


def plain_sum(one, other):
    return None if one is None or other is None else one + other


def plain_lesser(one, other):
    known = [value for value in [one, other] if value is not None]
    return min(known, default=None)


def no_shorter(test, run):
    """Check that no run with a shorter list stands for the same."""
    first, start, slope = run
    if first:
        shorter = (first[:-1], first[-1], slope if first[-1] is not None else 0)
        test.assertNotEqual(values_of(shorter, len(first) + 5), values_of(run, len(first) + 5))
    test.assertIs(is_run(run), True)


class ExampleTest(unittest.TestCase):
    def test_example(self):
        run_example(self, EXAMPLE)


class LeastRunTest(unittest.TestCase):
    def test_against_all_values(self):
        chance = chances(100)
        shorter = 0
        for _ in range(3000):
            given = some_run(chance)
            run = least_run(*given)
            self.assertEqual(values_of(run), values_of(given))
            no_shorter(self, run)
            self.assertIs(is_run(given), given == run)
            shorter += given != run
            for count in list(range(12)) + [FAR, 10 ** 39]:
                self.assertEqual(run_value(run, count), plain_value(*given, count))
        self.assertGreater(shorter, 500)

    def test_same_values_same_least_run(self):
        chance = chances(101)
        known = {}
        for _ in range(3000):
            run = least_run([chance.choice([None, 0, 1]) for _ in range(chance.randint(0, 3))], chance.choice([None, 0, 1]), 0)
            known.setdefault(repr(values_of(run)), run)
            self.assertEqual(known[repr(values_of(run))], run)

    def test_edges(self):
        self.assertEqual([least_run([], None, 0), least_run([None] * 600, None, 0), least_run([], 5, -7)], [([], None, 0), ([], None, 0), ([], 5, -7)])
        self.assertEqual([least_run([None] * 600, 3, 0), least_run(list(range(600)), 600, 1)], [([None] * 600, 3, 0), ([], 0, 1)])
        self.assertEqual(least_run(list(range(600)), None, 0), (list(range(600)), None, 0))
        far = 10 ** 28 + 7
        self.assertEqual(least_run([far, 2 * far], 3 * far, far), ([], far, far))
        self.assertEqual(least_run([None, -far], -2 * far, -far), ([None], -far, -far))
        self.assertEqual(run_value(([None], -far, -far), 10 ** 29), -far * 10 ** 29)
        self.assertIsNone(run_value(([1], None, 0), 10 ** 29))
        self.assertEqual(least_run([1] * 700, 2, 0)[0], [1] * 700)

    def test_wrong_inputs(self):
        for value in NO_RUNS:
            self.assertIs(is_run(value), False, value)
            told(self, "InvalidRun", value, run_value, value, 0)
        right = [([1], 3, 1), ([], None, 0), ([None], 1, 2), ([], 0, 0), ([3], None, 0)]
        for value in right:
            self.assertIs(is_run(value), True)
        answered_false(self, lambda value: value in right + [([], 1, 0)], is_run)
        refused(self, "InvalidRun", lambda value: value in [([], None, 0), ([], 1, 0)], lambda value: run_value(value, 0))
        refused(self, "InvalidNumber", lambda value: is_number(value, 0, 10 ** 99), lambda value: run_value(([], 1, 0), value))
        refused(self, "InvalidList", lambda value: isinstance(value, list) and value in [[], [0], [1], [0, 0], [None], [-1]] and True not in
                [item is True for item in value], lambda value: least_run(value, 1, 0))
        for value in [[True], [1, False], ["a"], [[1]], [(1,)], (1,), [None, "1"], [0.5]]:
            told(self, "InvalidList", value, least_run, value, 1, 0)
        refused(self, "InvalidNumber", lambda value: value is None or is_number(value, -10 ** 99, 10 ** 99), lambda value: least_run([], value, 0))
        refused(self, "InvalidNumber", lambda value: is_number(value, -10 ** 99, 10 ** 99), lambda value: least_run([], 1, value))
        refused(self, "InvalidNumber", lambda value: is_number(value, 0, 0), lambda value: least_run([], None, value))

    def test_the_first_wrong_argument_is_told(self):
        first, start, slope = [True], "b", "c"
        told(self, "InvalidList", first, least_run, first, start, slope)
        told(self, "InvalidNumber", start, least_run, [], start, slope)
        told(self, "InvalidRun", first, run_value, first, -1)

    def test_lists_that_are_handed_in_stay(self):
        first = [1, 2, 3]
        run = least_run(first, 4, 1)
        self.assertEqual((first, run), ([1, 2, 3], ([], 1, 1)))
        given = [None, 7]
        run = least_run(given, 3, 3)
        run[0].append(5)
        self.assertEqual(given, [None, 7])
        given.append(5)
        self.assertEqual(least_run([None, 7], 3, 3), ([None, 7], 3, 3))
        self.assertEqual(least_run(first=[1], start=2, slope=1), ([], 1, 1))
        self.assertEqual([is_run(value=([], 1, 1)), run_value(run=([], 1, 1), number=4)], [True, 5])


class TwoRunsTest(unittest.TestCase):
    def test_against_all_values(self):
        chance = chances(102)
        crossings = 0
        for _ in range(4000):
            one, other = least(chance), least(chance)
            total, lesser = run_sum(one, other), run_lesser(one, other)
            for run in [total, lesser]:
                no_shorter(self, run)
            for count in list(range(40)) + [10 ** 6, FAR]:
                left, right = run_value(one, count), run_value(other, count)
                self.assertEqual(run_value(total, count), plain_sum(left, right))
                self.assertEqual(run_value(lesser, count), plain_lesser(left, right))
            self.assertEqual((run_sum(other, one), run_lesser(other, one)), (total, lesser))
            crossings += len(lesser[0]) > max(len(one[0]), len(other[0]))
            self.check_meetings(one, other)
        self.assertGreater(crossings, 300)

    def check_meetings(self, one, other):
        counts, since = run_meetings(one, other)
        same = [run_value(one, count) == run_value(other, count) for count in range(60)]
        if since is None:
            self.assertIn(False, same[40:])
            self.assertEqual([count for count in counts if count < 60], [count for count in range(60) if same[count]])
        else:
            self.assertTrue(all(same[since:]) and (not since or not same[since - 1]))
            self.assertEqual(counts, [count for count in range(since) if same[count]])
        self.assertEqual(run_meetings(other, one), (counts, since))

    def test_lines_that_cross_far_behind(self):
        far = 10 ** 28
        self.assertEqual(run_meetings(([], 0, 2), ([None], 2 * far + 1, 1)), ([2 * far], None))
        self.assertEqual(run_meetings(([], 0, 2), ([], 2 * far + 1, 0)), ([], None))
        self.assertEqual(run_meetings(([], 0, 2), ([], 2 * far, 0)), ([far], None))
        self.assertEqual(run_meetings(([5, 4], 0, -1), ([5], -far, 1)), ([0], None))
        self.assertEqual(run_meetings(([], 0, -3), ([], -3 * far, 0)), ([far], None))
        told(self, "TooMany", far, run_lesser, ([], 0, 2), ([], 2 * far, 0))
        told(self, "TooMany", far + 1, run_lesser, ([], 0, 2), ([], 2 * far + 1, 0))
        told(self, "TooMany", 2 * far, run_lesser, ([], 0, 2), ([None], 2 * far + 1, 1))
        self.assertEqual(run_lesser(([], 0, -2), ([], 2 * far, 0)), ([], 0, -2))

    def test_lessers_at_the_bound(self):
        self.assertEqual(run_lesser(([], 0, 1), ([], 600, 0)), (list(range(600)), 600, 0))
        told(self, "TooMany", 601, run_lesser, ([], 0, 1), ([], 601, 0))
        self.assertEqual(run_lesser(([], 1, 2), ([], 1200, 0)), (list(range(1, 1200, 2)), 1200, 0))
        told(self, "TooMany", 601, run_lesser, ([], 0, 2), ([], 1201, 0))
        many = [None] * 600
        self.assertEqual(run_lesser((many, 1, 0), ([], None, 0)), (many, 1, 0))
        told(self, "TooMany", 601, run_lesser, (many, 0, 1), (many, 1, 0))
        self.assertEqual(run_lesser((many, 1, 1), (many, 1, 0)), (many, 1, 0))
        told(self, "TooMany", 601, run_lesser, (many + [None], 1, 0), ([], None, 0))
        self.assertEqual(run_lesser((many + [None], 1, 0), ([], 0, 0)), ([], 0, 0))

    def test_sums_with_600_items(self):
        many = [None] * 600
        self.assertEqual(run_sum((many, 1, 0), ([], 3, -2)), (many, -1196, -2))
        self.assertEqual(run_sum((list(range(600)), 7, 0), ([0] * 599, 7, 1)), (list(range(599)) + [606], 15, 1))
        self.assertEqual(run_sum(([0] * 601, 7, 0), ([1], 2, 0))[0], [1] + [2] * 600)
        self.assertEqual(run_sum((many, 1, 0), ([], None, 0)), ([], None, 0))

    def test_none(self):
        never, always = ([], None, 0), ([], 1, 0)
        self.assertEqual([run_sum(never, always), run_lesser(never, always), run_lesser(never, never)], [never, always, never])
        self.assertEqual([run_meetings(never, never), run_meetings(never, always), run_meetings(([1], None, 0), never)],
                         [([], 0), ([], None), ([], 1)])
        self.assertEqual(run_meetings(([None, 1, None], 4, 1), ([None, 2, None], 3, 1)), ([0, 2], None))
        self.assertEqual(run_meetings(([None, 1, 3], 4, 2), ([None, 2, 3], 4, 2)), ([0], 2))

    def test_wrong_inputs(self):
        right = ([], 1, 0)
        for call in [run_sum, run_lesser, run_meetings]:
            refused(self, "InvalidRun", lambda value: value in [([], None, 0), right], lambda value: call(value, right))
            refused(self, "InvalidRun", lambda value: value in [([], None, 0), right], lambda value: call(right, value))
            for value in NO_RUNS:
                told(self, "InvalidRun", value, call, value, right)
                told(self, "InvalidRun", value, call, right, value)
            told(self, "InvalidRun", NO_RUNS[0], call, NO_RUNS[0], NO_RUNS[1])

    def test_runs_that_are_handed_in_stay(self):
        one, other = ([1, None], 2, 3), ([4], 9, -1)
        found = [run_sum(one=one, other=other), run_lesser(one=one, other=other), run_meetings(one=one, other=other)]
        again = [run_sum(one, other), run_lesser(one, other), run_meetings(one, other)]
        found[0][0].append(1), found[1][0].append(1), found[2][0].append(1)
        self.assertEqual((one, other), (([1, None], 2, 3), ([4], 9, -1)))
        self.assertEqual(again, [run_sum(one, other), run_lesser(one, other), run_meetings(one, other)])
        lesser = run_lesser(one, ([], None, 0))
        lesser[0].append(1)
        self.assertEqual(one, ([1, None], 2, 3))


class WheelTest(unittest.TestCase):
    def test_against_all_letters(self):
        chance = chances(103)
        seen = 0
        for _ in range(3000):
            first = [chance.choice([None, "a", "b"]) for _ in range(chance.randint(0, 5))]
            turn = [chance.choice([None, "a", "b"]) for _ in range(chance.randint(1, 3))] * chance.randint(1, 3)
            wheel = least_wheel(first, turn)
            stands = [first[at] if at < len(first) else turn[(at - len(first)) % len(turn)] for at in range(60)]
            self.assertEqual([wheel_value(wheel, at) for at in range(60)], stands)
            self.assertIs(is_wheel(wheel), True)
            self.assertIs(is_wheel((first, turn)), (first, turn) == wheel)
            self.assertEqual((len(wheel[1]), len(wheel[0])), self.plain_sizes(stands))
            seen += (first, turn) != wheel
        self.assertGreater(seen, 1000)

    def plain_sizes(self, stands):
        """The least lengths of a turn and, with it, of a list for what stands at the first 60 counts."""
        for size in range(1, 10):
            for start in range(0, 20):
                if all([stands[at] == stands[at + size] for at in range(start, 60 - size)]):
                    return size, start
        return None

    def test_turns_read_backwards_and_repeated(self):
        self.assertEqual(least_wheel(["c", "b", "a", "b"], ["a", "b"] * 3), (["c"], ["b", "a"]))
        self.assertEqual(least_wheel(["a", "b", "c"] * 200, ["a", "b", "c"] * 200), ([], ["a", "b", "c"]))
        self.assertEqual(least_wheel(["b", "c"] + ["a", "b", "c"] * 190, ["a", "b", "c"] * 200), ([], ["b", "c", "a"]))
        self.assertEqual(least_wheel([None, "a"], [None]), ([None, "a"], [None]))
        self.assertEqual(least_wheel([None] * 600, [None] * 600), ([], [None]))
        self.assertEqual(least_wheel(["a", None], ["a", None, "b", "a", None]), ([], ["a", None, "a", None, "b"]))
        turn = ["a"] * 599 + ["b"]
        self.assertEqual(least_wheel(turn[1:], turn), ([], turn[1:] + turn[:1]))

    def test_great_counts(self):
        far = 10 ** 29
        self.assertEqual([wheel_value((["c"], ["b", "a", None]), 3 * far + 1 + k) for k in range(4)], ["b", "a", None, "b"])
        self.assertEqual([wheel_value((["c", None], ["a"]), k) for k in [0, 1, 2, far]], ["c", None, "a", "a"])

    def test_wrong_inputs(self):
        for value in NO_WHEELS:
            self.assertIs(is_wheel(value), False, value)
            told(self, "InvalidWheel", value, wheel_value, value, 0)
        right = [([], ["a"]), ([], [None])]
        answered_false(self, lambda value: value in right, is_wheel)
        refused(self, "InvalidWheel", lambda value: value in right, lambda value: wheel_value(value, 0))
        refused(self, "InvalidNumber", lambda value: is_number(value, 0, 10 ** 99), lambda value: wheel_value(([], ["a"]), value))
        lists = [[], ["a"], [None]]
        refused(self, "InvalidList", lambda value: value in lists, lambda value: least_wheel(value, ["a"]))
        refused(self, "InvalidList", lambda value: value in lists[1:], lambda value: least_wheel([], value))
        for value in [["ab"], ["A"], [""], ["a", 1], [True], ("a",), "a", [["a"]]]:
            told(self, "InvalidList", value, least_wheel, value, ["a"])
            told(self, "InvalidList", value, least_wheel, [], value)
        one, other = [1], [2]
        told(self, "InvalidList", one, least_wheel, one, other)
        told(self, "InvalidWheel", one, wheel_value, one, -1)

    def test_lists_that_are_handed_in_stay(self):
        first, turn = ["b", "c"], ["a", "b", "a"]
        wheel = least_wheel(first=first, turn=turn)
        self.assertEqual(wheel, (["b", "c"], ["a", "b", "a"]))
        wheel[0].append("a"), wheel[1].append("a")
        self.assertEqual((first, turn), (["b", "c"], ["a", "b", "a"]))
        self.assertEqual([is_wheel(value=(["c"], ["a"])), wheel_value(wheel=(["c"], ["a"]), number=0)], [True, "c"])


class EveryKindTest(unittest.TestCase):
    def test_judging_never_fails(self):
        for value in strange_values():
            for given in [value, (value, 1, 0), ([], value, 0), ([], 1, value), ([value], 1, 0), (value, ["a"]), ([], value), ([], [value])]:
                self.assertIn(is_run(given), [True, False])
                self.assertIn(is_wheel(given), [True, False])


if __name__ == "__main__":
    unittest.main()
