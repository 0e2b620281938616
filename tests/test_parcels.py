"""[42] to [44]: ways to the goal, lost roads, and the bound that tells who is cut off."""

import itertools
import random
import unittest

from keyroads.errors import InvalidHouse, InvalidNet, InvalidStanding
from keyroads.goals import goal_standing
from keyroads.parcels import (cut_off_bound, how_many_ways, leads_on, longest_way, lost_road, parcel_way, repair,
                              unharmed)
from tests import plain
from tests.plain import PATH, RING, TAIL, complete
from tests.test_goals import SQUARE, alone, goal_cases, joined_nets

# Two rings that share a house, and two that share a road.
EIGHT = (5, [(0, 1, 2), (0, 2, 1), (1, 2, 3), (2, 3, 1), (2, 4, 4), (3, 4, 2)])
SHARED = (4, [(0, 1, 1), (0, 2, 3), (1, 2, 2), (1, 3, 1), (2, 3, 5)])
# Two rings with a road between them.
BRIDGE = (6, [(0, 1, 1), (0, 2, 2), (1, 2, 1), (2, 3, 9), (3, 4, 1), (3, 5, 3), (4, 5, 2)])


def ways_on(net, standing, house):
    """All ways to go on from a house until the end."""
    table = plain.key_table(net, standing)
    found, waiting = [], [[house]]
    for way in waiting:
        heads = [other for other in plain.near(net, way[-1]) if table[other, way[-1]] == 0]
        waiting.extend(way + [head] for head in heads)
        if not heads:
            found.append(way)
    return found


def steps_of(net):
    """For each ring, its roads as sets of two houses."""
    return [{frozenset(pair) for pair in zip(ring, ring[1:] + ring[:1])} for ring in plain.all_rings(net)]


def lots_of_roads(net):
    """The lots of roads that lie together, by putting rings together that share a road."""
    lots = steps_of(net)
    while True:
        for one, other in itertools.combinations(range(len(lots)), 2):
            if lots[one] & lots[other]:
                lots[one] = lots[one] | lots[other]
                del lots[other]
                break
        else:
            return lots


def plain_bound(net, goal):
    """The greatest sum of keys less 1, over all ways."""
    keys = {frozenset(road[:2]): road[2] for road in net[1]}
    far = {house: min(len(way) for way in plain.simple_ways(net, goal) if way[-1] == house)
           for house in range(net[0])}
    bounds = [0]
    for lot in lots_of_roads(net):
        start = min({house for pair in lot for house in pair}, key=lambda house: far[house])
        for way in plain.simple_ways(net, start):
            pairs = [frozenset(pair) for pair in zip(way, way[1:])]
            if all(pair in lot for pair in pairs):
                bounds.append(sum(keys[pair] for pair in pairs) - 1)
    return max(bounds)


def works_without(net, standing, goal, one, other):
    """How often each house works past the goal without a road, from the standing of the goal on."""
    home = plain.behind(net, standing, plain.at_rest(net, standing, [goal]))
    left, held = plain.without_road(net, home, one, other)
    near = [part for part in plain.joined_parts(left) if goal in part][0]
    apart = [house for house in range(net[0]) if house not in near]
    run = plain.at_rest(left, held, [goal] + apart)
    return [run.count(house) if house in near else None for house in range(net[0])]


class Examples(unittest.TestCase):
    def test_of_the_document(self):
        standing = [1, 0, 1, 0]
        home = goal_standing(SQUARE, standing, 0)
        self.assertEqual([leads_on(SQUARE, home), parcel_way(SQUARE, home, 2), parcel_way(SQUARE, home, 1),
                          how_many_ways(SQUARE, home, 1), longest_way(SQUARE, home, 1)],
                         [[[], [0, 2], [3], [0]], [2, 3, 0], [1, 0], 2, 3])
        self.assertEqual([lost_road(SQUARE, home, 0, 3), repair(SQUARE, standing, 0, 3, 0),
                          repair(SQUARE, standing, 0, 0, 1), unharmed(SQUARE, standing, 0, 0, 3),
                          cut_off_bound(SQUARE, 0)],
                         [((4, [(0, 1, 1), (1, 2, 1), (2, 3, 1)]), [0, 1, 1]), [0, 0, 1, 2], [0, 0, 0, 0], [0, 1], 2])
        self.assertEqual(repair((3, [(0, 1, 2), (1, 2, 1)]), [1, 1], 0, 1, 2), [0, 0, None])


class Parcels(unittest.TestCase):
    def test_over_all_ways_on(self):
        for net, standing in goal_cases():
            table = plain.key_table(net, standing)
            self.assertEqual(leads_on(net, standing), [[other for other in plain.near(net, house)
                                                        if table[other, house] == 0] for house in range(net[0])])
            for house in range(net[0]):
                ways = ways_on(net, standing, house)
                self.assertEqual(parcel_way(net, standing, house), min(ways))
                self.assertEqual(how_many_ways(net, standing, house), len(ways))
                self.assertEqual(longest_way(net, standing, house), max(len(way) for way in ways) - 1)
                for way in ways:
                    self.assertEqual(len(set(way)), len(way))
                    self.assertIn(way[-1], alone(net, standing))

    def test_all_ways_end_at_the_goal(self):
        for net, standing in goal_cases(80, 111):
            for goal in range(net[0]):
                home = goal_standing(net, standing, goal)
                for house in range(net[0]):
                    self.assertEqual({way[-1] for way in ways_on(net, home, house)}, {goal})
                    self.assertEqual(parcel_way(net, home, house)[-1], goal)

    def test_one_for_a_house_that_can_work(self):
        for net, standing in goal_cases(80, 112):
            for house in alone(net, standing):
                self.assertEqual([parcel_way(net, standing, house), how_many_ways(net, standing, house),
                                  longest_way(net, standing, house)], [[house], 1, 0])
        self.assertEqual([leads_on((1, []), []), parcel_way((1, []), [], 0)], [[[]], [0]])

    def test_at_the_limits(self):
        net = complete(12, 9)
        standing = [9] * 66
        # Each house waits for all greater ones.
        self.assertEqual(leads_on(net, standing), [list(range(house + 1, 12)) for house in range(12)])
        self.assertEqual(how_many_ways(net, standing, 0), 2 ** 10)
        self.assertEqual(longest_way(net, standing, 0), 11)
        self.assertEqual(parcel_way(net, standing, 0), list(range(12)))
        more = complete(20, 1)
        self.assertEqual(how_many_ways(more, [1] * 190, 0), 2 ** 18)


class Lost(unittest.TestCase):
    def test_a_lost_road(self):
        for net, standing in goal_cases(100, 113):
            for low, high, _ in net[1]:
                right = plain.without_road(net, standing, low, high)
                self.assertEqual(lost_road(net, standing, low, high), right)
                self.assertEqual(lost_road(net, standing, high, low), right)
                self.assertTrue(plain.is_free(*right))
        self.assertEqual(lost_road((2, [(0, 1, 1)]), [1], 1, 0), ((2, []), []))

    def test_repairs_over_runs(self):
        for net, standing in goal_cases(90, 114):
            for goal in range(net[0]):
                for low, high, _ in net[1]:
                    works = works_without(net, standing, goal, low, high)
                    self.assertEqual(repair(net, standing, goal, low, high), works)
                    self.assertEqual(repair(net, standing, goal, high, low), works)
                    free = [house for house in range(net[0]) if works[house] == 0]
                    self.assertEqual(unharmed(net, standing, goal, low, high), free)
                    self.assertEqual(unharmed(net, standing, goal, high, low), free)
                    left, held = plain.without_road(net, goal_standing(net, standing, goal), low, high)
                    self.assertEqual(free, [house for house in range(net[0])
                                            if plain.least_length(left, held, [goal], house) == 0])
                    self.assertIn(goal, free)

    def test_the_others_lead_on_to_the_goal_again(self):
        for net, standing in goal_cases(60, 115):
            for goal in range(net[0]):
                for low, high, _ in net[1]:
                    works = repair(net, standing, goal, low, high)
                    left, held = plain.without_road(net, goal_standing(net, standing, goal), low, high)
                    there = [keys + (works[one] or 0) - (works[two] or 0)
                             for (one, two, _), keys in zip(left[1], held)]
                    for house in range(net[0]):
                        if works[house] is not None:
                            self.assertEqual({way[-1] for way in ways_on(left, there, house)}, {goal})

    def test_at_the_limits(self):
        row = (12, [(at, at + 1, 9) for at in range(11)])
        self.assertEqual(repair(row, [9] * 11, 0, 5, 6), [0] * 6 + [None] * 6)
        self.assertEqual(unharmed(row, [9] * 11, 0, 5, 6), [0, 1, 2, 3, 4, 5])
        circle = (12, [(0, 1, 9), (0, 11, 9)] + [(at, at + 1, 9) for at in range(1, 11)])
        works = repair(circle, [9] * 12, 0, 0, 1)
        home = goal_standing(circle, [9] * 12, 0)
        self.assertEqual(works, works_without(circle, [9] * 12, 0, 0, 1))
        self.assertEqual(len(home), 12)
        net = complete(12, 9)
        left, held = plain.without_road(net, goal_standing(net, [9] * 66, 3), 4, 3)
        run = plain.at_rest(left, held, [3])
        self.assertEqual(repair(net, [9] * 66, 3, 4, 3), [run.count(house) for house in range(12)])


class Bound(unittest.TestCase):
    def test_over_all_ways(self):
        chance = random.Random(116)
        nets = joined_nets() + [EIGHT, SHARED, BRIDGE, SQUARE, complete(5, 2)]
        while len(nets) < 120:
            net, _ = plain.random_case(chance, 6, 4, 0.45)
            if plain.is_joined(net):
                nets.append(net)
        for net in nets:
            for goal in range(net[0]):
                self.assertEqual(cut_off_bound(net, goal), plain_bound(net, goal))

    def test_told_nets(self):
        self.assertEqual([cut_off_bound(EIGHT, goal) for goal in range(5)], [5, 5, 5, 5, 4])
        self.assertEqual([cut_off_bound(RING, goal) for goal in range(3)], [1, 1, 1])
        self.assertEqual([cut_off_bound(PATH, goal) for goal in range(3)], [0, 0, 0])
        self.assertEqual(cut_off_bound((1, []), 0), 0)
        self.assertEqual([cut_off_bound(BRIDGE, goal) for goal in (0, 2, 5)], [4, 4, 3])

    def test_no_house_works_more_often_if_it_is_not_cut_off(self):
        cases = goal_cases(120, 117)
        for net in (EIGHT, SHARED, BRIDGE):
            free = [standing for standing in plain.standings_of(net) if plain.is_free(net, standing)]
            cases += [(net, standing) for standing in random.Random(118).sample(free, 12)]
        for net, standing in cases:
            for goal in range(net[0]):
                bound = cut_off_bound(net, goal)
                for low, high, _ in net[1]:
                    works = repair(net, standing, goal, low, high)
                    self.assertLessEqual(max(many for many in works if many is not None), bound)

    def test_at_its_limit(self):
        self.assertEqual(cut_off_bound(complete(9, 9), 4), 71)
        # Only the way round over the heavy roads has most of the keys.
        net = (9, [(low, high, 9 if high == low + 1 else 1) for low, high, _ in complete(9, 1)[1]])
        self.assertEqual(cut_off_bound(net, 0), 71)
        self.assertEqual(cut_off_bound(net, 4), 63)

    def test_beyond_its_limit(self):
        self.assertEqual(cut_off_bound(complete(11, 9), 0), 89)


class Errors(unittest.TestCase):
    def judge(self, call, arguments, error, wrong):
        with self.assertRaises(error) as caught:
            call(*arguments)
        self.assertIs(caught.exception.value, wrong)

    def test_nets_that_are_not_joined_and_stuck_rings(self):
        apart, stuck = (4, [(0, 1, 1), (2, 3, 1)]), [0, 1, 0, 1]
        for call, more in [(leads_on, []), (parcel_way, [0]), (how_many_ways, [0]), (longest_way, [0]),
                           (lost_road, [0, 1]), (repair, [0, 0, 1]), (unharmed, [0, 0, 1])]:
            self.judge(call, [apart, [0, 0]] + more, InvalidNet, apart)
            self.judge(call, [TAIL, stuck] + more, InvalidStanding, stuck)
            self.judge(call, [TAIL, stuck] + [None for _ in more], InvalidStanding, stuck)
        self.judge(cut_off_bound, [apart, 0], InvalidNet, apart)

    def test_houses(self):
        for wrong in (None, True, False, -1, 3, 10 ** 29, "0", [0], (0,)):
            for call in (parcel_way, how_many_ways, longest_way):
                self.judge(call, [PATH, [1, 0], wrong], InvalidHouse, wrong)
            self.judge(cut_off_bound, [PATH, wrong], InvalidHouse, wrong)
            self.judge(lost_road, [PATH, [1, 0], wrong, None], InvalidHouse, wrong)
            self.judge(lost_road, [PATH, [1, 0], 1, wrong], InvalidHouse, wrong)
            for call in (repair, unharmed):
                self.judge(call, [PATH, [1, 0], wrong, None, None], InvalidHouse, wrong)
                self.judge(call, [PATH, [1, 0], 2, wrong, None], InvalidHouse, wrong)
                self.judge(call, [PATH, [1, 0], 2, 1, wrong], InvalidHouse, wrong)
        for one, other in [(0, 0), (0, 2), (2, 0)]:
            for call, more in [(lost_road, []), (repair, [1]), (unharmed, [1])]:
                self.judge(call, [PATH, [1, 0]] + more + [one, other], InvalidHouse, other)


if __name__ == "__main__":
    unittest.main()
