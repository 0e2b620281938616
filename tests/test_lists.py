"""[11] to [14]: lists of works."""

import itertools
import math
import random
import unittest

from keyroads.errors import InvalidHouse, InvalidNumber, InvalidRun, InvalidWorks, TooMany, Unlike
from keyroads.lists import (all_runs, always_ahead, are_works, bar_of, how_many_runs, is_bar, led_over, needed_works,
                            run_for, steps_between)
from keyroads.works import is_run, run_to_end, works_of
from tests import plain
from tests.plain import PATH, RING, TAIL, complete, some_cases
from tests.values import any_values

ROW, KEYS = (3, [(0, 1, 1), (1, 2, 1)]), [0, 1]
WAITING = [0, 1, 0]


def all_bars(net, standing, works):
    """All that bars a list of works, by the words of [11]: roads in order, and then rings."""
    table = plain.key_table(net, standing)
    roads = [("road", u, v) for u, v in sorted(table) if works[v] > works[u] + table[u, v]]
    rings = [("ring", ring) for ring in plain.stuck_rings(net, standing) if any(works[house] for house in ring)]
    return roads + rings


class Examples(unittest.TestCase):
    def test_lists(self):
        self.assertEqual([are_works(ROW, KEYS, [2, 1, 1]), run_for(ROW, KEYS, [1, 1, 1]), bar_of(ROW, KEYS, [0, 1, 0]),
                          is_bar(ROW, KEYS, [0, 2, 0], ("road", 2, 1)), bar_of(RING, WAITING, [1, 1, 1])],
                         [True, [0, 2, 1], ("road", 0, 1), True, ("ring", [0, 1, 2])])
        self.assertEqual([how_many_runs(ROW, KEYS, [1, 1, 1]), all_runs(ROW, KEYS, [1, 1, 1]),
                          needed_works(ROW, KEYS, 1, 2), needed_works(ROW, KEYS, 2, 1),
                          needed_works(RING, WAITING, 0, 1)],
                         [2, [[0, 2, 1], [2, 0, 1]], [2, 2, 2], [0, 0, 1], None])
        self.assertEqual([always_ahead(ROW, KEYS, 0, 1, 1, 1), always_ahead(ROW, KEYS, 0, 1, 2, 1),
                          always_ahead(ROW, KEYS, 0, 1, 2, 2), steps_between(ROW, KEYS, [0, 2, 1], [2, 0, 1]),
                          led_over(ROW, KEYS, [0, 2, 1], [2, 0, 1])],
                         [True, False, True, 1, [[0, 2, 1], [2, 0, 1]]])


class Lists(unittest.TestCase):
    def test_lists_of_works_are_just_those_of_runs(self):
        for net, standing in some_cases(120, 2):
            most = 4 if net[0] <= 3 else 2
            right = plain.lists_by_runs(net, standing, most)
            for works in itertools.product(range(most + 1), repeat=net[0]):
                self.assertIs(are_works(net, standing, list(works)), works in right)

    def test_no_lists_of_works(self):
        for value in [None, (0, 0, 0), [0, 0], [0, 0, 0, 0], [0, 0, True], [False, 0, 0], [0, 0, -1], [0, 0, None],
                      "000", [[0], 0, 0]]:
            self.assertFalse(are_works(ROW, KEYS, value))
            for call in (run_for, bar_of, how_many_runs, all_runs):
                with self.assertRaises(InvalidWorks) as caught:
                    call(ROW, KEYS, value)
                self.assertIs(caught.exception.value, value)
            with self.assertRaises(InvalidWorks) as caught:
                is_bar(ROW, KEYS, value, None)
            self.assertIs(caught.exception.value, value)

    def test_bars(self):
        for net, standing in some_cases(70, 3) + [(complete(4, 1), [0, 1, 0, 0, 1, 0]), (TAIL, [0, 1, 0, 1])]:
            for works in itertools.product(range(3), repeat=net[0]):
                bars = all_bars(net, standing, works)
                self.assertEqual(bar_of(net, standing, list(works)), bars[0] if bars else None)
                self.assertIs(are_works(net, standing, list(works)), not bars)

    def test_what_is_a_bar(self):
        for net, standing in [(ROW, KEYS), (RING, WAITING), (RING, [1, 1, 1]), (TAIL, [0, 1, 0, 1]),
                              (complete(4, 1), [0, 1, 0, 0, 1, 0])]:
            asked = [("road", u, v) for u in range(-1, 5) for v in range(-1, 5)]
            asked += [("ring", ring) for ring in plain.all_rings(net) + [[1, 2, 0], [0, 1], [], [0, 1, 2, 0]]]
            for works in itertools.product(range(3), repeat=net[0]):
                bars = all_bars(net, standing, works)
                for value in asked:
                    self.assertIs(is_bar(net, standing, list(works), value), value in bars, (standing, works, value))
        for value in any_values():
            if value not in (("road", 0, 1), ("road", 2, 1)):
                self.assertFalse(is_bar(ROW, KEYS, [0, 2, 0], value), value)
        for value in [("road", False, 1), ("road", 0, True), ["road", 0, 1], ("road", 0, 1, 0), ("ring", 0, 1),
                      ("road", [0, 1]), ("road",), (0, 1), ("roads", 0, 1)]:
            self.assertFalse(is_bar(ROW, KEYS, [0, 2, 0], value), value)
        for value in [("ring", [False, 1, 2]), ("ring", (0, 1, 2)), ("ring", [0, 2, 1]), ["ring", [0, 1, 2]],
                      ("road", [0, 1, 2])]:
            self.assertFalse(is_bar(RING, WAITING, [1, 1, 1], value), value)

    def test_the_first_ring_that_works_is_told(self):
        two = (6, [(0, 1, 1), (0, 2, 1), (1, 2, 1), (3, 4, 1), (3, 5, 1), (4, 5, 1)])
        self.assertEqual(bar_of(two, WAITING * 2, [0, 0, 0, 1, 1, 1]), ("ring", [3, 4, 5]))
        self.assertEqual(bar_of(two, WAITING * 2, [2, 2, 2, 1, 1, 1]), ("ring", [0, 1, 2]))
        self.assertIsNone(bar_of(two, WAITING * 2, [0] * 6))

    def test_numbers_of_30_figures(self):
        big = 10 ** 29
        self.assertTrue(are_works(PATH, [1, 0], [big, big, big]))
        self.assertFalse(are_works(PATH, [1, 0], [big, big, big + 1]))
        self.assertEqual(bar_of(PATH, [1, 0], [big, big, big + 1]), ("road", 1, 2))
        self.assertTrue(is_bar(PATH, [1, 0], [0, 0, big], ("road", 1, 2)))
        self.assertEqual(needed_works(PATH, [1, 0], 2, big), [big - 1, big, big])
        self.assertTrue(always_ahead(PATH, [1, 0], 0, big, 2, big + 1))
        self.assertFalse(always_ahead(PATH, [1, 0], 0, big, 2, big))
        self.assertIsNone(run_for(PATH, [1, 0], [big, 0, big]))
        with self.assertRaises(TooMany) as caught:
            how_many_runs(PATH, [1, 0], [big, big, big])
        self.assertEqual(caught.exception.value, (big + 1) ** 3)


class Runs(unittest.TestCase):
    def test_runs_of_a_list(self):
        for net, standing in some_cases(60, 4):
            for works in itertools.product(range(3), repeat=net[0]):
                if sum(works) > 5:
                    continue
                works = list(works)
                right = plain.runs_doing(net, standing, works)
                self.assertEqual(how_many_runs(net, standing, works), len(right))
                self.assertEqual(all_runs(net, standing, works), right)
                self.assertEqual(run_for(net, standing, works), right[0] if right else None)

    def test_the_bound_of_lists(self):
        self.assertEqual(how_many_runs((1, []), [], [1999]), 1)
        self.assertEqual(all_runs((1, []), [], [1999]), [[0] * 1999])
        self.assertEqual(how_many_runs((2, []), [], [39, 49]), math.comb(88, 39))
        for works, many in [([2000, 0], 2001), ([22, 86], 2001), ([1, 1000], 2002), ([0, 10 ** 29], 10 ** 29 + 1)]:
            for call in (how_many_runs, all_runs):
                with self.assertRaises(TooMany) as caught:
                    call((2, []), [], works)
                self.assertEqual(caught.exception.value, many)
        # Also where no run does them.
        with self.assertRaises(TooMany) as caught:
            how_many_runs(ROW, KEYS, [0, 2000, 0])
        self.assertEqual(caught.exception.value, 2001)

    def test_no_run_but_many_beginnings(self):
        net = (10, [(8, 9, 1)])
        self.assertEqual(all_runs(net, [0], [1] * 8 + [0, 1]), [])
        self.assertEqual(how_many_runs(net, [0], [1] * 8 + [0, 1]), 0)

    def test_the_bound_of_runs(self):
        for works in ([2, 23], [1, 299]):
            found = all_runs((2, []), [], works)
            self.assertEqual(len(found), 300)
            self.assertEqual(found, sorted(found))
            self.assertEqual(how_many_runs((2, []), [], works), 300)
        for works, many in [([1, 300], 301), ([1, 999], 1000), ([39, 49], math.comb(88, 39))]:
            with self.assertRaises(TooMany) as caught:
                all_runs((2, []), [], works)
            self.assertEqual(caught.exception.value, many)

    def test_at_the_limits(self):
        net = complete(12, 9)
        standing = [3] * 66
        works = [167] * 8 + [166] * 4
        run = run_for(net, standing, works)
        self.assertTrue(is_run(net, standing, run))
        self.assertEqual(works_of(net, run), works)
        self.assertEqual(len(run), 2000)
        self.assertEqual(all_runs(net, standing, [0] * 12), [[]])
        self.assertEqual(how_many_runs((12, []), [], [1] * 10 + [0, 0]), 3628800)


class Ahead(unittest.TestCase):
    def test_what_comes_ahead_in_every_run(self):
        for net, standing in some_cases(60, 5):
            if net[0] > 4:
                continue
            lists = plain.lists_by_runs(net, standing, 4 if net[0] < 4 else 3)
            for u, v in itertools.permutations(range(net[0]), 2):
                for i, j in itertools.product(range(1, 4), repeat=2):
                    # It does not if v has worked j times at some moment at which u has worked less than i times.
                    right = not any(works[v] == j and works[u] < i for works in lists)
                    self.assertIs(always_ahead(net, standing, u, i, v, j), right)

    def test_errors_in_the_order_of_the_parameters(self):
        bad = {"u": (3, InvalidHouse), "i": (0, InvalidNumber), "v": (-1, InvalidHouse), "j": (True, InvalidNumber)}
        right = {"u": 0, "i": 1, "v": 1, "j": 1}
        for names in plain.subsets("uivj")[1:]:
            call = {name: bad[name][0] if name in names else right[name] for name in right}
            first = min(names, key="uivj".index)
            with self.assertRaises(bad[first][1]) as caught:
                always_ahead(ROW, KEYS, **call)
            self.assertIs(caught.exception.value, bad[first][0])
        with self.assertRaises(InvalidHouse) as caught:
            always_ahead(ROW, KEYS, 2, 1, 2, 0)
        self.assertEqual(caught.exception.value, 2)
        with self.assertRaises(InvalidNumber):
            always_ahead(ROW, KEYS, 2, 0, 2, 1)

    def test_needed_works(self):
        for net, standing in some_cases(80, 6):
            most = 4 if net[0] < 4 else 3
            lists = plain.lists_by_runs(net, standing, most)
            for house in range(net[0]):
                for number in range(most + 1):
                    those = [works for works in lists if works[house] == number]
                    right = [min(column) for column in zip(*those)] if those else None
                    self.assertEqual(needed_works(net, standing, house, number), right)
                    if right is not None:
                        self.assertTrue(are_works(net, standing, right))

    def test_needed_works_past_stuck_rings(self):
        self.assertEqual(needed_works(TAIL, [0, 1, 0, 1], 3, 1), [0, 0, 0, 1])
        self.assertIsNone(needed_works(TAIL, [0, 1, 0, 1], 3, 2))
        self.assertEqual(needed_works(TAIL, [0, 1, 0, 1], 0, 0), [0, 0, 0, 0])
        self.assertTrue(always_ahead(TAIL, [0, 1, 0, 1], 0, 9, 3, 2))
        self.assertFalse(always_ahead(TAIL, [0, 1, 0, 1], 0, 1, 3, 1))
        for value in (None, True, -1, "1", [1]):
            with self.assertRaises(InvalidNumber) as caught:
                needed_works(TAIL, [0, 1, 0, 1], 3, value)
            self.assertIs(caught.exception.value, value)


def fewest_exchanges(net, standing, one, other):
    """By going over all runs that are next to one another, how far they are from one another."""
    far = {tuple(one): 0}
    waiting = [list(one)]
    for run in waiting:
        for at in range(len(run) - 1):
            later = run[:at] + [run[at + 1], run[at]] + run[at + 2:]
            if run[at] != run[at + 1] and tuple(later) not in far and plain.is_run(net, standing, later):
                far[tuple(later)] = far[tuple(run)] + 1
                waiting.append(later)
    return far[tuple(other)]


def turned_pairs(one, other):
    """The pairs of works (each a house and its number) that stand in one order in one run and not in the other."""
    def named(run):
        return [(house, run[:at].count(house)) for at, house in enumerate(run)]
    there = named(other)
    return [(a, b) for a, b in itertools.combinations(named(one), 2) if there.index(b) < there.index(a)]


class Led(unittest.TestCase):
    def judge_led(self, net, standing, one, other):
        turned = turned_pairs(one, other)
        self.assertEqual(steps_between(net, standing, one, other), len(turned))
        found = led_over(net, standing, one, other)
        self.assertEqual(len(found), len(turned) + 1)
        self.assertEqual((found[0], found[-1]), (one, other))
        for run, later in zip(found, found[1:]):
            self.assertTrue(plain.is_run(net, standing, later))
            # The first neighbouring works that stand the other way round in the other run.
            pairs = turned_pairs(run, other)
            named = [(house, run[:at].count(house)) for at, house in enumerate(run)]
            at = [place for place in range(len(run) - 1) if (named[place], named[place + 1]) in pairs][0]
            self.assertEqual(later, run[:at] + [run[at + 1], run[at]] + run[at + 2:])

    def test_small_runs(self):
        chance = random.Random(9)
        for net, standing in some_cases(50, 7):
            runs = plain.runs_up_to(net, standing, 5)
            for one in chance.sample(runs, min(8, len(runs))):
                others = [run for run in runs if sorted(run) == sorted(one)]
                for other in chance.sample(others, min(3, len(others))):
                    self.judge_led(net, standing, one, other)
                    self.assertEqual(steps_between(net, standing, one, other),
                                     fewest_exchanges(net, standing, one, other))

    def test_alike_runs(self):
        self.assertEqual(led_over(ROW, KEYS, [0, 2, 1], [0, 2, 1]), [[0, 2, 1]])
        self.assertEqual(steps_between(ROW, KEYS, [], []), 0)
        self.assertEqual(led_over(ROW, KEYS, [], []), [[]])
        one = [0, 2]
        self.assertIsNot(led_over(ROW, KEYS, one, one)[0], one)

    def test_runs_of_40_works(self):
        one = [0] * 20 + [1] * 20
        self.assertEqual(steps_between((2, []), [], one, one[::-1]), 400)
        self.judge_led((2, []), [], one[10:30], one[10:30][::-1])
        twelve = [at % 12 for at in range(40)]
        found = led_over((12, []), [], twelve, sorted(twelve, reverse=True))
        self.assertEqual(len(found), 1 + len(turned_pairs(twelve, sorted(twelve, reverse=True))))
        net = complete(12, 9)
        run = run_to_end(net, [4] * 66, [11])[:40]
        other = run_for(net, [4] * 66, works_of(net, run))
        self.judge_led(net, [4] * 66, run, other)

    def test_errors(self):
        for value in [None, (0, 2, 1), [1], [True], [3], "0"]:
            for call in (steps_between, led_over):
                for one, other in [(value, [0]), ([0], value), (value, value)]:
                    with self.assertRaises(InvalidRun) as caught:
                        call(ROW, KEYS, one, other)
                    self.assertIs(caught.exception.value, value)
        for one, other in [([0], [2]), ([0], []), ([], [0]), ([0, 2], [0, 2, 1])]:
            for call in (steps_between, led_over):
                with self.assertRaises(Unlike) as caught:
                    call(ROW, KEYS, one, other)
                self.assertIs(caught.exception.value, other)


if __name__ == "__main__":
    unittest.main()
