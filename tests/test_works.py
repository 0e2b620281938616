"""[8], [9], [10]: works and runs."""

import itertools
import random
import unittest

from keyroads.errors import InvalidHouse, InvalidHouses, InvalidRun, InvalidWorks, TooMany
from keyroads.works import able, behind_works, can_work, done, is_run, run_to_end, work, works_of
from tests import plain
from tests.plain import PATH, TAIL, complete, some_cases

ROW, KEYS = (3, [(0, 1, 1), (1, 2, 1)]), [0, 1]


def naive_end(net, standing, resting, chance=None):
    """The run to the end and the standing there, by the words of [10]; by chance who works if one is given."""
    run = []
    while True:
        ready = [house for house in range(net[0]) if house not in resting and plain.can_work(net, standing, house)]
        if not ready:
            return run, standing
        if len(run) == 2000:
            return None, None
        house = chance.choice(ready) if chance else ready[0]
        run.append(house)
        standing = plain.work(net, standing, house)


class Examples(unittest.TestCase):
    def test_works(self):
        self.assertEqual([able(ROW, KEYS), can_work(ROW, KEYS, 1), work(ROW, KEYS, 0), done(ROW, KEYS, [0, 2, 1]),
                          works_of(ROW, [2, 0, 2]), behind_works(ROW, KEYS, [1, 0, 1])],
                         [[0, 2], False, [1, 1], [0, 1], [1, 0, 2], [1, 0]])
        self.assertEqual([is_run(ROW, KEYS, [0, 2, 1, 2]), is_run(ROW, KEYS, [1]), run_to_end(ROW, KEYS, [1])],
                         [True, False, [0, 2]])


class Works(unittest.TestCase):
    def test_who_can_work_and_what_it_does(self):
        for net, standing in some_cases():
            ready = [house for house in range(net[0]) if plain.can_work(net, standing, house)]
            self.assertEqual(able(net, standing), ready)
            for house in range(net[0]):
                self.assertIs(can_work(net, standing, house), house in ready)
                if house in ready:
                    behind = work(net, standing, house)
                    self.assertEqual(behind, plain.work(net, standing, house))
                    # Who could work still can, whoever else worked.
                    self.assertFalse([other for other in ready if other != house
                                      and not can_work(net, behind, other)])
                else:
                    with self.assertRaises(InvalidHouse) as caught:
                        work(net, standing, house)
                    self.assertEqual(caught.exception.value, house)

    def test_houses_without_roads_always_can(self):
        self.assertEqual(able((3, [(0, 1, 1)]), [0]), [0, 2])
        self.assertEqual(work((1, []), [], 0), [])
        self.assertTrue(is_run((1, []), [], [0] * 100))
        self.assertEqual(done((1, []), [], [0] * 100), [])

    def test_runs_are_just_all_of_them(self):
        for net, standing in some_cases(40):
            for many in range(4):
                for run in itertools.product(range(net[0]), repeat=many):
                    run = list(run)
                    right = plain.is_run(net, standing, run)
                    self.assertIs(is_run(net, standing, run), right)
                    if right:
                        behind = plain.behind(net, standing, run)
                        self.assertEqual(done(net, standing, run), behind)
                        self.assertEqual(behind_works(net, standing, works_of(net, run)), behind)
                    else:
                        with self.assertRaises(InvalidRun) as caught:
                            done(net, standing, run)
                        self.assertIs(caught.exception.value, run)
                    self.assertEqual(works_of(net, run), [run.count(house) for house in range(net[0])])

    def test_no_runs(self):
        for value in [None, (), (0,), "0", {0: 1}, [True], [False], [None], [[0]], [3], [-1], [10 ** 29], 0]:
            self.assertFalse(is_run(ROW, KEYS, value), value)
            for call in (lambda: done(ROW, KEYS, value), lambda: works_of(ROW, value)):
                with self.assertRaises(InvalidRun) as caught:
                    call()
                self.assertIs(caught.exception.value, value)

    def test_behind_works_that_no_run_does(self):
        for net, standing in some_cases(40):
            for works in itertools.product((0, 1, 4), repeat=net[0]):
                table = plain.key_table(net, standing)
                self.assertEqual(behind_works(net, standing, list(works)),
                                 [table[low, high] + works[low] - works[high] for low, high, _ in net[1]])
        self.assertEqual(behind_works(ROW, KEYS, [10 ** 29, 0, 5]), [10 ** 29, -4])
        for value in [None, (0, 0, 0), [0, 0], [0, 0, 0, 0], [0, -1, 0], [0, True, 0], [0, None, 0]]:
            with self.assertRaises(InvalidWorks) as caught:
                behind_works(ROW, KEYS, value)
            self.assertIs(caught.exception.value, value)


class Ends(unittest.TestCase):
    def judge_end(self, net, standing, resting, chance):
        run, behind = naive_end(net, standing, resting)
        if run is None:
            with self.assertRaises(TooMany) as caught:
                run_to_end(net, standing, resting)
            self.assertEqual(caught.exception.value, 2001)
        else:
            self.assertEqual(run_to_end(net, standing, resting), run)
            other, end = naive_end(net, standing, resting, chance)
            self.assertEqual((works_of(net, other), end), (works_of(net, run), behind))

    def test_all_lists_of_resting_houses(self):
        chance = random.Random(7)
        for net, standing in some_cases(40):
            for resting in plain.subsets(range(net[0])):
                self.judge_end(net, standing, resting, chance)

    def test_random_nets(self):
        chance = random.Random(8)
        for _ in range(60):
            net, standing = plain.random_case(chance, chance.randint(4, 7), 4, 0.5)
            resting = [house for house in range(net[0]) if chance.random() < 0.3]
            self.judge_end(net, standing, resting, chance)

    def test_stuck_rings_and_resting_houses(self):
        self.assertEqual(run_to_end(TAIL, [0, 1, 0, 1], []), [3])
        self.assertEqual(run_to_end((2, []), [], [0, 1]), [])
        for standing, resting in [([1, 1], []), ([0, 1], [])]:
            with self.assertRaises(TooMany) as caught:
                run_to_end(ROW, standing, resting)
            self.assertEqual(caught.exception.value, 2001)
        with self.assertRaises(TooMany):
            run_to_end((2, []), [], [0])

    def test_the_bound(self):
        self.assertEqual(run_to_end((2, [(0, 1, 2000)]), [2000], [0]), [1] * 2000)
        self.assertEqual(run_to_end((2, [(0, 1, 2500)]), [2000], [0]), [1] * 2000)
        for keys in (2001, 10 ** 29):
            with self.assertRaises(TooMany) as caught:
                run_to_end((2, [(0, 1, keys)]), [keys], [0])
            self.assertEqual(caught.exception.value, 2001)

    def test_who_rests(self):
        for value in [None, (0,), [1, 0], [0, 0], [3], [True], ["0"], [[0]]]:
            with self.assertRaises(InvalidHouses) as caught:
                run_to_end(PATH, [0, 0], value)
            self.assertIs(caught.exception.value, value)

    def test_at_the_limits(self):
        row = (12, [(at, at + 1, 9) for at in range(11)])
        run = run_to_end(row, [9] * 11, [0])
        self.assertEqual(works_of(row, run), [9 * at for at in range(12)])
        self.assertEqual(done(row, [9] * 11, run), [0] * 11)
        net = complete(12, 9)
        standing = [4] * 66
        run = run_to_end(net, standing, [3])
        self.assertTrue(is_run(net, standing, run))
        self.assertEqual(able(net, done(net, standing, run)), [3])
        self.assertEqual(max(run.count(house) for house in range(12)), 5)


if __name__ == "__main__":
    unittest.main()
