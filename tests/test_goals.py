"""[38] to [41]: goals."""

import itertools
import random
import unittest

from keyroads.classes import classes, how_many_classes
from keyroads.counts import last_standing
from keyroads.errors import InvalidHouse, InvalidNet, InvalidStanding, TooMany
from keyroads.goals import (goal_road, goal_run, goal_standing, goal_standings, goal_works, how_many_for_goal,
                            is_goal_standing, lone_workers, there_and_back)
from tests import plain
from tests.plain import PATH, RING, TAIL, complete

SQUARE = (4, [(0, 1, 1), (0, 3, 1), (1, 2, 1), (2, 3, 1)])
STAR = (3, [(0, 1, 1), (0, 2, 1)])


def joined_nets():
    """Small nets in which ways lead from each house to each other one."""
    return [net for net in plain.some_nets() if plain.is_joined(net)]


def goal_cases(most=None, seed=1):
    """Joined nets and standings without stuck rings: all of the small ones, or so many, and some greater ones."""
    cases = [(net, standing) for net in joined_nets() for standing in plain.standings_of(net)
             if plain.is_free(net, standing)]
    chance = random.Random(seed)
    if most is not None:
        cases = chance.sample(cases, most)
    wanted = len(cases) + 25
    while len(cases) < wanted:
        net, standing = plain.random_case(chance, 5, 3, 0.6)
        if plain.is_joined(net) and plain.is_free(net, standing):
            cases.append((net, standing))
    return cases


def alone(net, standing):
    """The houses that can work."""
    return [house for house in range(net[0]) if plain.can_work(net, standing, house)]


class Examples(unittest.TestCase):
    def test_of_the_document(self):
        standing = [1, 0, 1, 0]
        self.assertEqual([goal_works(SQUARE, standing, 0), goal_standing(SQUARE, standing, 0),
                          goal_run(SQUARE, standing, 0), goal_works(SQUARE, standing, 3)],
                         [[0, 1, 1, 0], [0, 0, 1, 1], [2, 1], [1, 1, 1, 0]])
        self.assertEqual([goal_standings(SQUARE, standing), lone_workers(SQUARE, standing),
                          is_goal_standing(SQUARE, standing, 2), is_goal_standing(SQUARE, standing, 1),
                          how_many_for_goal(SQUARE, 1), goal_standings(STAR, [1, 1])],
                         [[[0, 0, 1, 1], [1, 0, 0, 1], [1, 0, 1, 0], [1, 1, 1, 1]], [2], True, False, 3,
                          [[0, 0], [1, 0], [0, 1]]])
        self.assertEqual([goal_road(SQUARE, standing, 0, 2), goal_road(SQUARE, standing, 2, 0),
                          there_and_back(SQUARE, standing, 0, 2)],
                         [[1, 0, 0, 1], [0, 1, 1, 0], 1])


class Goals(unittest.TestCase):
    def test_over_runs_past_the_goal(self):
        for net, standing in goal_cases():
            for goal in range(net[0]):
                run = plain.at_rest(net, standing, [goal])
                there = plain.behind(net, standing, run)
                self.assertEqual(goal_run(net, standing, goal), run)
                self.assertEqual(goal_standing(net, standing, goal), there)
                self.assertEqual(goal_works(net, standing, goal), [run.count(house) for house in range(net[0])])
                self.assertEqual(goal_works(net, standing, goal),
                                 [plain.least_length(net, standing, [goal], house) for house in range(net[0])])
                self.assertEqual(last_standing(net, standing, [goal]), there)
                self.assertTrue(is_goal_standing(net, there, goal))

    def test_every_run_past_the_goal_ends_there(self):
        chance = random.Random(101)
        for net, standing in goal_cases(80, 102):
            for goal in range(net[0]):
                for _ in range(3):
                    here, many = standing, 0
                    while [house for house in alone(net, here) if house != goal]:
                        house = chance.choice([house for house in alone(net, here) if house != goal])
                        here, many = plain.work(net, here, house), many + 1
                    self.assertEqual(here, goal_standing(net, standing, goal))
                    self.assertEqual(many, sum(goal_works(net, standing, goal)))

    def test_what_is_a_goal_standing(self):
        for net, standing in goal_cases():
            workers = alone(net, standing)
            self.assertEqual(lone_workers(net, standing), workers)
            self.assertGreater(len(workers), 0)
            for goal in range(net[0]):
                self.assertIs(is_goal_standing(net, standing, goal), workers == [goal])

    def test_one_for_each_house_in_each_class(self):
        for net in joined_nets():
            for some in classes(net):
                found = goal_standings(net, some[0])
                self.assertEqual(len({tuple(standing) for standing in found}), net[0])
                for goal in range(net[0]):
                    right = [standing for standing in some if alone(net, standing) == [goal]]
                    self.assertEqual(right, [found[goal]])
                for standing in some:
                    self.assertEqual(goal_standings(net, standing), found)

    def test_how_many_for_a_goal(self):
        for net in joined_nets():
            for goal in range(net[0]):
                many = len([standing for standing in plain.standings_of(net)
                            if alone(net, standing) == [goal] and plain.is_free(net, standing)])
                self.assertEqual(how_many_for_goal(net, goal), many)
                self.assertEqual(how_many_classes(net), many)

    def test_both_sides_of_the_bound(self):
        just = (5, [(0, 1, 9), (1, 2, 9), (2, 3, 4), (3, 4, 3)])
        self.assertEqual([how_many_for_goal(just, goal) for goal in range(5)], [1] * 5)
        for net, many in [((5, [(0, 1, 12), (1, 2, 10), (2, 3, 6), (3, 4, 1)]), 2002), (complete(12, 9), 10 ** 66)]:
            with self.assertRaises(TooMany) as caught:
                how_many_for_goal(net, 0)
            self.assertEqual(caught.exception.value, many)
            with self.assertRaises(InvalidHouse):
                how_many_for_goal(net, 12)
        with self.assertRaises(InvalidNet):
            how_many_for_goal((7, [(0, 1, 12), (1, 2, 10), (2, 3, 6), (3, 4, 1)]), 9)

    def test_there_and_back(self):
        for net, standing in goal_cases(100, 103):
            for one, other in itertools.product(range(net[0]), repeat=2):
                there, back = goal_road(net, standing, one, other), goal_road(net, standing, other, one)
                run = plain.at_rest(net, goal_standing(net, standing, one), [other])
                self.assertEqual(there, [run.count(house) for house in range(net[0])])
                told = there_and_back(net, standing, one, other)
                self.assertEqual([first + second for first, second in zip(there, back)], [told] * net[0])
                ways = [plain.least_length(net, standing, [one], other), plain.least_length(net, standing, [other], one)]
                self.assertEqual(told, sum(ways))
                for house in alone(net, standing):
                    self.assertEqual(there_and_back(net, plain.work(net, standing, house), one, other), told)

    def test_one_house(self):
        net = (1, [])
        self.assertEqual([goal_standing(net, [], 0), goal_works(net, [], 0), goal_standings(net, []),
                          goal_run(net, [], 0), lone_workers(net, []), goal_road(net, [], 0, 0)],
                         [[], [0], [[]], [], [0], [0]])
        self.assertTrue(is_goal_standing(net, [], 0))
        self.assertEqual([how_many_for_goal(net, 0), there_and_back(net, [], 0, 0)], [1, 0])

    def test_at_the_limits(self):
        row = (12, [(at, at + 1, 9) for at in range(11)])
        self.assertEqual(goal_works(row, [9] * 11, 0), [9 * at for at in range(12)])
        self.assertEqual(goal_standing(row, [9] * 11, 0), [0] * 11)
        run = goal_run(row, [9] * 11, 0)
        self.assertEqual(len(run), 9 * 66)
        self.assertEqual(plain.behind(row, [9] * 11, run), [0] * 11)
        self.assertEqual(there_and_back(row, [4] * 11, 0, 11), 99)
        net, standing = complete(12, 9), [(7 * at) % 8 + 1 for at in range(66)]
        for goal, there in enumerate(goal_standings(net, standing)):
            self.assertTrue(is_goal_standing(net, there, goal))
            self.assertEqual(plain.behind(net, standing, goal_run(net, standing, goal)), there)
        self.assertEqual(goal_works((14, [(at, at + 1, 11) for at in range(13)]), [11] * 13, 0)[13], 143)


class Errors(unittest.TestCase):
    def judge(self, call, arguments, error, wrong):
        with self.assertRaises(error) as caught:
            call(*arguments)
        self.assertIs(caught.exception.value, wrong)

    def test_nets_that_are_not_joined_and_stuck_rings(self):
        apart, stuck = (4, [(0, 1, 1), (2, 3, 1)]), [0, 1, 0]
        for call, more in [(goal_standing, [0]), (goal_works, [0]), (is_goal_standing, [0]), (goal_standings, []),
                           (lone_workers, []), (goal_road, [0, 1]), (there_and_back, [0, 1]), (goal_run, [0])]:
            self.judge(call, [apart, [0, 0]] + more, InvalidNet, apart)
            self.judge(call, [apart, None] + more, InvalidNet, apart)
            self.judge(call, [RING, stuck] + more, InvalidStanding, stuck)
            self.judge(call, [RING, stuck] + [None for _ in more], InvalidStanding, stuck)
            self.judge(call, [TAIL, stuck] + more, InvalidStanding, stuck)
        self.judge(how_many_for_goal, [apart, 0], InvalidNet, apart)
        alone_and_stuck = (4, RING[1])
        self.judge(lone_workers, [alone_and_stuck, stuck], InvalidNet, alone_and_stuck)

    def test_goals(self):
        for wrong in (None, True, False, -1, 3, 10 ** 29, "0", [0], (0,)):
            for call in (goal_standing, goal_works, is_goal_standing, goal_run):
                self.judge(call, [PATH, [1, 0], wrong], InvalidHouse, wrong)
            for call in (goal_road, there_and_back):
                self.judge(call, [PATH, [1, 0], wrong, None], InvalidHouse, wrong)
                self.judge(call, [PATH, [1, 0], 2, wrong], InvalidHouse, wrong)
            self.judge(how_many_for_goal, [PATH, wrong], InvalidHouse, wrong)


if __name__ == "__main__":
    unittest.main()
