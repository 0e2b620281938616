"""[20] to [25]: exact counts."""

import itertools
import random
import unittest

from keyroads.counts import (are_counts, bounding, count_way, counts, counts_behind, ending_run, is_count_way,
                             is_ending, last_standing, worth_resting)
from keyroads.errors import InvalidHouses, InvalidNumber, InvalidRun
from keyroads.works import behind_works, done, is_run, works_of
from tests import plain
from tests.plain import RING, TAIL, complete, some_cases
from tests.values import any_values

ROW, HELD = (4, [(0, 1, 1), (1, 2, 2), (2, 3, 1)]), [1, 2, 0]


def resting_cases(many, seed):
    """Nets, standings and lists of resting houses."""
    cases = [(net, standing, resting) for net, standing in some_cases()
             for resting in plain.subsets(range(net[0]))]
    return random.Random(seed).sample(cases, many)


def random_cases(seed, many, houses, keys, density):
    chance = random.Random(seed)
    cases = []
    for _ in range(many):
        net, standing = plain.random_case(chance, houses, keys, density)
        cases.append((net, standing, [house for house in range(houses) if chance.random() < 0.3]))
    return cases


def plain_counts(net, standing, resting):
    """The least lengths of ways from the ends, over all ways."""
    ends = sorted(set(resting) | set(plain.stuck_houses(net, standing)))
    return [plain.least_length(net, standing, ends, house) for house in range(net[0])]


def by_picks(net, standing, resting, picks):
    """The run by the words of [23], None if it goes on beyond 500 works."""
    run = []
    while len(run) <= 500:
        ready = [house for house in range(net[0]) if house not in resting and plain.can_work(net, standing, house)]
        if not ready:
            return run
        pick = picks[len(run)] if len(run) < len(picks) else 0
        run.append(ready[pick % len(ready)])
        standing = plain.work(net, standing, run[-1])
    return None


def minimum(one, other):
    """The lesser number, None being greater than all."""
    return min([number for number in (one, other) if number is not None], default=None)


class Examples(unittest.TestCase):
    def test_counts(self):
        self.assertEqual([counts(ROW, HELD, [0]), counts(ROW, HELD, []), counts(ROW, HELD, [1, 3]),
                          count_way(ROW, HELD, [0], 3), is_count_way(ROW, HELD, [1, 3], 2, [3, 2])],
                         [[0, 1, 3, 3], [None, None, None, None], [0, 0, 1, 0], [0, 1, 2, 3], True])
        self.assertEqual([are_counts(ROW, HELD, [0], [0, 1, 3, 3]), are_counts(ROW, HELD, [0], [0, 1, 2, 2]),
                          last_standing(ROW, HELD, [0]), last_standing(ROW, HELD, [])],
                         [True, False, [0, 0, 0], None])
        self.assertEqual([ending_run(ROW, HELD, [0], []), ending_run(ROW, HELD, [0], [5]),
                          is_ending(ROW, HELD, [0], [2, 1]), counts_behind(ROW, HELD, [0], [2, 1])],
                         [[2, 1, 3, 2, 3, 2, 3], [2, 1, 3, 2, 3, 2, 3], False, [0, 0, 2, 3]])
        self.assertEqual([counts(TAIL, [0, 1, 0, 1], []), ending_run(TAIL, [0, 1, 0, 1], [], []),
                          bounding(ROW, HELD, [1, 3], 2), worth_resting(ROW, HELD, [0], 2)],
                         [[0, 0, 0, 1], [3], [3], [1, 2, 3]])


class Counts(unittest.TestCase):
    def test_every_run_past_them(self):
        """All lists of works that runs past the resting houses do are gone through, up to a bound."""
        for net, standing, resting in resting_cases(110, 21) + random_cases(22, 25, 4, 2, 0.6):
            told = counts(net, standing, resting)
            self.assertEqual(told, plain_counts(net, standing, resting))
            most = max([number for number in told if number is not None], default=0)
            most = max(most + 1, 2)
            if (most + 1) ** net[0] > 20000:
                continue
            lists = plain.lists_by_runs(net, standing, most, resting)
            reached = [max(column) for column in zip(*lists)]
            self.assertEqual(reached, [most if number is None else number for number in told])
            for works, behind in lists.items():
                ready = [house for house in range(net[0])
                         if house not in resting and plain.can_work(net, behind, house)]
                if not ready:
                    # It cannot be gone on: all have worked just so often, and there is one standing.
                    self.assertEqual(list(works), told)
                    self.assertEqual(behind, last_standing(net, standing, resting))
                elif None not in told:
                    # Somebody whose number is not reached yet can work: so each run can be gone on to the numbers.
                    self.assertTrue(all(works[house] < told[house] for house in ready))
            self.assertEqual(last_standing(net, standing, resting) is None, None in told)

    def test_the_last_standing_alone(self):
        for net, standing, resting in resting_cases(200, 23) + random_cases(24, 60, 5, 3, 0.5):
            told = plain_counts(net, standing, resting)
            right = None if None in told else behind_works(net, standing, told)
            self.assertEqual(last_standing(net, standing, resting), right)
            if right is not None:
                self.assertFalse([house for house in range(net[0])
                                  if house not in resting and plain.can_work(net, right, house)])

    def test_houses_without_number(self):
        self.assertEqual(counts((3, [(0, 1, 1)]), [0], [0]), [0, 0, None])
        self.assertEqual(counts((3, [(0, 1, 1)]), [0], [0, 2]), [0, 0, 0])
        self.assertEqual(counts((1, []), [], []), [None])
        self.assertEqual(counts((1, []), [], [0]), [0])
        self.assertEqual(counts((5, TAIL[1]), [0, 1, 0, 1], []), [0, 0, 0, 1, None])
        self.assertEqual(last_standing((5, TAIL[1]), [0, 1, 0, 1], [4]), [0, 1, 0, 0])
        self.assertEqual(last_standing((2, []), [], [0, 1]), [])
        self.assertEqual(ending_run((2, []), [], [0, 1], [4]), [])
        self.assertEqual(ending_run(RING, [0, 1, 0], [], []), [])

    def test_who_rests(self):
        calls = [lambda value: counts(ROW, HELD, value), lambda value: count_way(ROW, HELD, value, 9),
                 lambda value: is_count_way(ROW, HELD, value, 9, None), lambda value: are_counts(ROW, HELD, value, 0),
                 lambda value: last_standing(ROW, HELD, value), lambda value: ending_run(ROW, HELD, value, None),
                 lambda value: is_ending(ROW, HELD, value, []), lambda value: counts_behind(ROW, HELD, value, None),
                 lambda value: bounding(ROW, HELD, value, -1), lambda value: worth_resting(ROW, HELD, value, None)]
        for value in [None, (0,), [1, 0], [0, 0], [4], [-1], [True], ["0"], [[0]], {0: 1}]:
            for call in calls:
                with self.assertRaises(InvalidHouses) as caught:
                    call(value)
                self.assertIs(caught.exception.value, value)


class Papers(unittest.TestCase):
    def test_count_ways(self):
        for net, standing, resting in resting_cases(120, 25) + random_cases(26, 40, 5, 1, 0.7):
            ends = sorted(set(resting) | set(plain.stuck_houses(net, standing)))
            for house in range(net[0]):
                self.assertEqual(count_way(net, standing, resting, house),
                                 plain.first_best(net, standing, ends, house))

    def test_what_is_a_count_way(self):
        for net, standing, resting in resting_cases(60, 27):
            told = plain_counts(net, standing, resting)
            table = plain.key_table(net, standing)
            ends = sorted(set(resting) | set(plain.stuck_houses(net, standing)))
            last = last_standing(net, standing, resting)
            for start in range(net[0]):
                for way in plain.ways_with(net, start, 5 if net[0] < 4 else 4):
                    for house in range(net[0]):
                        right = way[0] in ends and way[-1] == house and plain.length(table, way) == told[house]
                        self.assertIs(is_count_way(net, standing, resting, house, way), right)
                    if last is not None and way[0] in ends:
                        # No key lies ahead on it in the last standing exactly if it is one.
                        self.assertIs(is_count_way(net, standing, resting, way[-1], way),
                                      plain.length(plain.key_table(net, last), way) == 0)

    def test_other_values_are_no_count_ways(self):
        for value in any_values() + [[False], [False, 1], [0, 1, 0, 1], (0, 1), [0, 1]]:
            right = repr(value) == "[0, 1]"
            self.assertIs(is_count_way((2, [(0, 1, 1)]), [0], [0], 1, value), right, value)
        self.assertFalse(is_count_way((2, []), [], [0], 1, [1]))
        self.assertTrue(is_count_way(RING, [0, 1, 0], [], 0, [1, 2, 0, 1, 2, 0]))

    def test_the_list_is_its_own_paper(self):
        for net, standing, resting in resting_cases(60, 28):
            if net[0] > 3:
                continue
            told = plain_counts(net, standing, resting)
            for value in itertools.product((None, 0, 1, 2, 3, 4), repeat=net[0]):
                self.assertIs(are_counts(net, standing, resting, list(value)), list(value) == told)

    def test_the_list_is_its_own_paper_in_larger_nets(self):
        for net, standing, resting in random_cases(29, 30, 5, 2, 0.5) + random_cases(30, 15, 6, 1, 0.6):
            told = counts(net, standing, resting)
            self.assertTrue(are_counts(net, standing, resting, told))
            for house in range(net[0]):
                for number in (None, 0, 1, 2, 5):
                    value = told[:house] + [number] + told[house + 1:]
                    self.assertIs(are_counts(net, standing, resting, value), value == told)

    def test_other_values_are_no_counts(self):
        for value in any_values() + [[0, True, 3, 3], [False, 1, 3, 3], (0, 1, 3, 3), [0, 1, 3], [0, 1, 3, 3, 3],
                                     [0, 1, 3, "3"], [0, 1, 3, [3]], [0, 1, 3, -3]]:
            self.assertFalse(are_counts(ROW, HELD, [0], value), value)
        self.assertFalse(are_counts((2, []), [], [], [None, 0]))
        self.assertTrue(are_counts((2, []), [], [], [None, None]))
        self.assertFalse(are_counts((2, []), [], [], [None, False]))


class Endings(unittest.TestCase):
    def test_by_picks(self):
        chance = random.Random(31)
        for net, standing, resting in resting_cases(150, 32) + random_cases(33, 40, 5, 3, 0.6):
            told = plain_counts(net, standing, resting)
            for many in (0, 3, 40):
                picks = [chance.randint(0, 9) for _ in range(many)]
                run = ending_run(net, standing, resting, picks)
                if None in told:
                    self.assertIsNone(run)
                else:
                    self.assertEqual(run, by_picks(net, standing, resting, picks))
                    self.assertEqual(works_of(net, run), told)
                    self.assertEqual(done(net, standing, run), last_standing(net, standing, resting))
                    self.assertTrue(is_ending(net, standing, resting, run))

    def test_picks(self):
        big = 10 ** 29 + 1
        self.assertEqual(ending_run(ROW, HELD, [0], [big] * 7), by_picks(ROW, HELD, [0], [big] * 7))
        for value in [None, (0,), [-1], [True], [0, None], ["0"], 0, [[0]], {}]:
            for resting in ([0], []):
                with self.assertRaises(InvalidNumber) as caught:
                    ending_run(ROW, HELD, resting, value)
                self.assertIs(caught.exception.value, value)

    def test_what_is_an_ending(self):
        for net, standing, resting in resting_cases(60, 34):
            right = [run for run in plain.runs_up_to(net, standing, 4, resting)
                     if not [house for house in range(net[0]) if house not in resting
                             and plain.can_work(net, plain.behind(net, standing, run), house)]]
            for many in range(5 if net[0] < 4 else 4):
                for run in itertools.product(range(net[0]), repeat=many):
                    self.assertIs(is_ending(net, standing, resting, list(run)), list(run) in right)

    def test_other_values_are_no_endings(self):
        for value in any_values():
            self.assertIs(is_ending((2, [(0, 1, 1)]), [1], [0], value), repr(value) == "[1]", value)
        self.assertFalse(is_ending((2, [(0, 1, 1)]), [1], [0], [True]))
        self.assertFalse(is_ending((2, [(0, 1, 1)]), [0], [0], [0, 1]))
        self.assertTrue(is_ending((2, []), [], [0, 1], []))

    def test_counts_behind(self):
        for net, standing, resting in resting_cases(80, 35) + random_cases(36, 15, 4, 3, 0.7):
            told = counts(net, standing, resting)
            for run in plain.runs_up_to(net, standing, 4 if net[0] < 4 else 3, resting):
                right = [None if number is None else number - run.count(house) for house, number in enumerate(told)]
                self.assertEqual(counts_behind(net, standing, resting, run), right)
        for value in [None, (2,), [1], [2, 0], [2, 1, 0], [True], ["2"], [4]]:
            with self.assertRaises(InvalidRun) as caught:
                counts_behind(ROW, HELD, [0], value)
            self.assertIs(caught.exception.value, value)
        # A resting house that could work is no matter.
        self.assertTrue(is_run(ROW, [0, 2, 0], [0]))
        with self.assertRaises(InvalidRun):
            counts_behind(ROW, [0, 2, 0], [0], [0])


class Bounding(unittest.TestCase):
    def test_which_ends_bound(self):
        for net, standing, resting in resting_cases(120, 37) + random_cases(38, 30, 5, 2, 0.7):
            told = plain_counts(net, standing, resting)
            ends = sorted(set(resting) | set(plain.stuck_houses(net, standing)))
            for house in range(net[0]):
                right = [end for end in ends if told[house] is not None
                         and plain.least_length(net, standing, [end], house) == told[house]]
                self.assertEqual(bounding(net, standing, resting, house), right)

    def test_who_is_worth_resting(self):
        for net, standing, resting in resting_cases(100, 39) + random_cases(40, 20, 5, 2, 0.6):
            told = counts(net, standing, resting)
            more = {other: counts(net, standing, sorted(set(resting) | {other})) for other in range(net[0])}
            for house in range(net[0]):
                right = [other for other in range(net[0])
                         if more[other][house] != minimum(None, told[house])
                         and minimum(more[other][house], told[house]) == more[other][house]]
                self.assertEqual(worth_resting(net, standing, resting, house), right)

    def test_more_that_rest_and_both_that_rest(self):
        chance = random.Random(41)
        for net, standing, resting in resting_cases(80, 42) + random_cases(43, 40, 6, 3, 0.5):
            other = [house for house in range(net[0]) if chance.random() < 0.4]
            both = counts(net, standing, sorted(set(resting) | set(other)))
            self.assertEqual(both, [minimum(a, b) for a, b in zip(counts(net, standing, resting),
                                                                  counts(net, standing, other))])

    def test_at_the_limits(self):
        net = complete(12, 9)
        standing = [(5 * at) % 10 for at in range(66)]
        told = counts(net, standing, [0, 7])
        self.assertTrue(are_counts(net, standing, [0, 7], told))
        for house in range(12):
            way = count_way(net, standing, [0, 7], house)
            self.assertTrue(is_count_way(net, standing, [0, 7], house, way))
            self.assertIn(way[0], bounding(net, standing, [0, 7], house))
            self.assertIs(house in worth_resting(net, standing, [0, 7], house), told[house] > 0)
        row = (12, [(at, at + 1, 9) for at in range(11)])
        run = ending_run(row, [9] * 11, [0], list(range(300)))
        self.assertEqual(works_of(row, run), [9 * at for at in range(12)])
        self.assertEqual(counts(row, [9] * 11, [0]), [9 * at for at in range(12)])
        self.assertTrue(is_ending(row, [9] * 11, [0], run))
        self.assertEqual(counts_behind(row, [9] * 11, [0], run), [0] * 12)
        self.assertEqual(last_standing(row, [9] * 11, [0]), [0] * 11)


if __name__ == "__main__":
    unittest.main()
