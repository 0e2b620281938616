"""[3], [4], [6], [7]: nets, standings, ways and rings."""

import itertools
import random
import unittest

from keyroads.errors import InvalidHouse, InvalidNet, InvalidRing, InvalidStanding, InvalidWay, TooMany
from keyroads.nets import (all_standings, directions, how_many_standings, is_net, is_ring, is_standing, is_way,
                           joined_parts, keys_at, least_lengths, neighbours, ring_length, rings, shortest_way,
                           way_length)
from tests import plain
from tests.plain import PATH, RING, complete, some_cases, some_nets
from tests.values import any_values

# Eight houses with just 500 rings, and with 502: there is none with 501, as each ring may be gone round both ways.
JUST_500 = "01 02 03 04 05 06 07 12 13 16 17 23 26 34 35 36 47 57"
JUST_502 = "01 04 06 13 16 23 24 25 26 27 34 35 36 37 45 46 47 67"


def eight_houses(pairs):
    return (8, [(int(low), int(high), 1) for low, high in pairs.split()])


class Examples(unittest.TestCase):
    def test_nets(self):
        self.assertEqual([is_net(PATH), is_net((3, [(1, 2, 2), (0, 1, 1)])), is_net((2, [(0, 1, 0)])),
                          is_net((1, [])), is_standing(PATH, [1, 2]), is_standing(PATH, [2, 0])],
                         [True, False, False, True, True, False])
        self.assertEqual([neighbours(PATH, 1), directions(PATH), joined_parts((4, [(0, 3, 1)])),
                          keys_at(PATH, [0, 2], 0, 1), keys_at(PATH, [0, 2], 1, 0), keys_at(PATH, [0, 2], 1, 2)],
                         [[0, 2], [(0, 1), (1, 0), (1, 2), (2, 1)], [[0, 3], [1], [2]], 0, 1, 2])
        self.assertEqual([how_many_standings(PATH), all_standings((2, [(0, 1, 2)])), all_standings((2, []))],
                         [6, [[0], [1], [2]], [[]]])

    def test_ways(self):
        self.assertEqual([is_way(PATH, [0, 1, 0]), is_way(PATH, [0, 2]), is_way(PATH, []), is_ring(RING, [0, 1, 2]),
                          is_ring(RING, [1, 2, 0]), is_ring(PATH, [0, 1])],
                         [True, False, False, True, False, False])
        self.assertEqual([rings(RING), ring_length(RING, [1, 0, 1], [0, 1, 2]),
                          ring_length(RING, [1, 0, 1], [0, 2, 1]), way_length(PATH, [0, 2], [0, 1, 2]),
                          way_length(PATH, [0, 2], [2])],
                         [[[0, 1, 2], [0, 2, 1]], 3, 0, 2, 0])
        self.assertEqual([least_lengths(PATH, [0, 2], 0), least_lengths(PATH, [0, 2], 2),
                          least_lengths((2, []), [], 0), shortest_way(RING, [1, 1, 1], 0, 2),
                          shortest_way((2, []), [], 0, 1)],
                         [[0, 0, 2], [1, 0, 0], [0, None], [0, 2], None])


class Nets(unittest.TestCase):
    def test_nets_beyond_the_limits_are_nets(self):
        for net in [(13, []), (10 ** 29, []), (10 ** 29, [(5, 10 ** 28, 10 ** 29)]), (2, [(0, 1, 10)]),
                    (200, complete(200, 99)[1])]:
            self.assertTrue(is_net(net))

    def test_what_is_no_net(self):
        for value in [(0, []), (-1, []), (True, []), ("2", []), (2.0, []), (None, []), [2, []], (2,), (2, [], []),
                      (2, ()), (2, {}), (2, None), (2, [(0, 2, 1)]), (2, [(1, 0, 1)]), (2, [(0, 0, 1)]),
                      (2, [(-1, 1, 1)]), (2, [(0, 1, 0)]), (2, [(0, 1, -1)]), (2, [(0, 1)]), (2, [(0, 1, 1, 1)]),
                      (2, [[0, 1, 1]]), (2, [(0, True, 1)]), (2, [(False, 1, 1)]), (2, [(0, 1, True)]),
                      (2, [(0, 1, None)]), (3, [(0, 2, 1), (0, 1, 1)]), (3, [(1, 2, 1), (0, 1, 1)]),
                      (3, [(0, 1, 1), (0, 1, 2)]), (3, [(0, 1, 1), (0, 1, 1)]), (1, [(0, 1, 1)])]:
            self.assertFalse(is_net(value), value)

    def test_standings_are_just_all_of_them(self):
        for net in some_nets():
            right = plain.standings_of(net)
            self.assertEqual(how_many_standings(net), len(right))
            if len(right) <= 2000:
                self.assertEqual(all_standings(net), right)
            for standing in right:
                self.assertTrue(is_standing(net, standing))
            for value in any_values():
                if type(value) is not list or any(type(item) is not int for item in value):
                    self.assertFalse(is_standing(net, value))
                else:
                    self.assertEqual(is_standing(net, value), value in right)

    def test_neighbours_and_directions(self):
        for net in some_nets():
            for house in range(net[0]):
                self.assertEqual(neighbours(net, house), plain.near(net, house))
            pairs = [(u, v) for u in range(net[0]) for v in plain.near(net, u)]
            self.assertEqual(directions(net), pairs)
            for standing in plain.standings_of(net)[:9]:
                table = plain.key_table(net, standing)
                self.assertEqual({pair: keys_at(net, standing, *pair) for pair in pairs}, table)

    def test_joined_parts(self):
        chance = random.Random(4)
        for _ in range(60):
            net = plain.random_case(chance, chance.randint(1, 7), 3, 0.25)[0]
            parts = sorted({tuple(sorted({way[-1] for way in plain.simple_ways(net, house)}))
                            for house in range(net[0])})
            self.assertEqual(joined_parts(net), [list(part) for part in parts])

    def test_the_bound_of_all_standings(self):
        just = (6, [(0, 1, 4), (1, 2, 4), (2, 3, 4), (3, 4, 3), (4, 5, 3)])
        self.assertEqual(how_many_standings(just), 2000)
        self.assertEqual(len(all_standings(just)), 2000)
        self.assertEqual(len(all_standings((2, [(0, 1, 1999)]))), 2000)
        for net, many in [((2, [(0, 1, 2000)]), 2001), ((3, [(0, 1, 22), (1, 2, 86)]), 2001),
                          (complete(12, 9), 10 ** 66), (complete(12, 1), 2 ** 66)]:
            self.assertEqual(how_many_standings(net), many)
            with self.assertRaises(TooMany) as caught:
                all_standings(net)
            self.assertEqual(caught.exception.value, many)

    def test_errors_that_one_point_adds(self):
        for other in (0, 2, 3, -1, True, None, [1]):
            with self.assertRaises(InvalidHouse) as caught:
                keys_at(PATH, [0, 0], 0, other)
            self.assertIs(caught.exception.value, other)
        with self.assertRaises(InvalidHouse):
            keys_at(PATH, [0, 0], 3, 1)
        with self.assertRaises(InvalidNet):
            keys_at((0, []), [0, 0], 3, 1)
        with self.assertRaises(InvalidStanding):
            keys_at(PATH, [0, 3], 3, 3)


class Ways(unittest.TestCase):
    def test_ways_are_just_all_of_them(self):
        for net in some_nets()[:12]:
            right = [way for house in range(net[0]) for way in plain.ways_with(net, house, 4)]
            for many in range(5):
                for value in itertools.product(range(-1, net[0] + 1), repeat=many):
                    self.assertEqual(is_way(net, list(value)), list(value) in right)

    def test_no_ways(self):
        for value in [[], (0,), [True], [0, True], [0, 1, None], [[0]], [0, [1]], "01", {0: 1}, [3], [0, 0], [0, -1]]:
            self.assertFalse(is_way(PATH, value), value)
            with self.assertRaises(InvalidWay) as caught:
                way_length(PATH, [0, 0], value)
            self.assertIs(caught.exception.value, value)

    def test_rings_are_just_all_of_them(self):
        chance = random.Random(5)
        nets = some_nets() + [plain.random_case(chance, 6, 2, 0.6)[0] for _ in range(12)] + [complete(5, 1)]
        for net in nets:
            right = plain.all_rings(net)
            self.assertEqual(rings(net), right)
            if net[0] <= 4:
                for many in range(net[0] + 2):
                    for value in itertools.product(range(net[0]), repeat=many):
                        self.assertEqual(is_ring(net, list(value)), list(value) in right)

    def test_no_rings(self):
        for value in [[False, 1, 2], [0, True, 2], (0, 1, 2), [0, 1, 2, 0], [2, 0, 1], [0, 1], [], [0, 1, 3], None,
                      [0, 1, [2]], [0, 1, 2, 1], ["0", 1, 2]]:
            self.assertFalse(is_ring(RING, value), value)
            with self.assertRaises(InvalidRing) as caught:
                ring_length(RING, [0, 0, 0], value)
            self.assertIs(caught.exception.value, value)

    def test_the_bound_of_rings(self):
        found = rings(eight_houses(JUST_500))
        self.assertEqual(len(found), 500)
        self.assertEqual(found, sorted(found))
        for net in [eight_houses(JUST_502), complete(7, 1), complete(8, 9), complete(12, 9)]:
            with self.assertRaises(TooMany) as caught:
                rings(net)
            self.assertEqual(caught.exception.value, 501)
        # So many roads of one house are no rings.
        self.assertEqual(rings((100, [(0, high, 1) for high in range(1, 100)])), [])
        many = (60, [(at, at + 1, 1) for at in range(59)])
        self.assertEqual(rings(many), [])
        self.assertEqual(len(rings((60, [(0, 1, 1), (0, 59, 1)] + many[1][1:]))), 2)

    def test_lengths(self):
        for net, standing in some_cases(60):
            table = plain.key_table(net, standing)
            keys = {road[:2]: road[2] for road in net[1]}
            for house in range(net[0]):
                for way in plain.ways_with(net, house, 4):
                    self.assertEqual(way_length(net, standing, way), plain.length(table, way))
                    both = way_length(net, standing, way) + way_length(net, standing, way[::-1])
                    self.assertEqual(both, sum(keys[min(pair), max(pair)] for pair in zip(way, way[1:])))
            for ring in plain.all_rings(net):
                self.assertEqual(ring_length(net, standing, ring), plain.ring_length(table, ring))

    def judge_shortest(self, net, standing):
        for house in range(net[0]):
            lengths = least_lengths(net, standing, house)
            self.assertEqual(lengths, [plain.least_length(net, standing, [house], goal) for goal in range(net[0])])
            self.assertEqual(lengths[house], 0)
            for goal in range(net[0]):
                way = shortest_way(net, standing, house, goal)
                self.assertEqual(way, plain.first_best(net, standing, [house], goal))
                if house == goal:
                    self.assertEqual(way, [house])

    def test_shortest_ways(self):
        for net, standing in some_cases(150):
            self.judge_shortest(net, standing)

    def test_shortest_ways_with_many_empty_steps(self):
        chance = random.Random(6)
        for _ in range(40):
            self.judge_shortest(*plain.random_case(chance, 5, 1, 0.8))
        for _ in range(10):
            self.judge_shortest(*plain.random_case(chance, 6, 2, 0.7))

    def test_at_the_limits(self):
        net = complete(12, 9)
        standing = [(3 * at) % 10 for at in range(66)]
        lengths = least_lengths(net, standing, 5)
        for goal in range(12):
            way = shortest_way(net, standing, 5, goal)
            self.assertTrue(is_way(net, way))
            self.assertEqual(way_length(net, standing, way), lengths[goal])
        for low, high, many in net[1]:
            self.assertLessEqual(lengths[high], lengths[low] + keys_at(net, standing, low, high))
            self.assertLessEqual(lengths[low], lengths[high] + keys_at(net, standing, high, low))
        none_ahead = [0] * 66
        self.assertEqual(shortest_way(net, none_ahead, 0, 11), list(range(12)))
        self.assertEqual(way_length(net, standing, [0, 1] * 5000), 9 * 4999 + keys_at(net, standing, 0, 1))


if __name__ == "__main__":
    unittest.main()
