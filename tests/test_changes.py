"""[79] to [81]: changes of a net."""

import itertools
import random
import unittest

from keyroads.changes import (counts_with, house_in, house_out, kept_counts, key_in, key_out, places_for, ring_by,
                              ring_by_house, road_in, road_out)
from keyroads.counts import counts
from keyroads.errors import InvalidHouse, InvalidHouses, InvalidNumber
from tests import plain, plain_changes
from tests.plain import PATH, RING, TAIL, complete, key_table, least_length, some_cases, stuck_rings

ROW = (3, [(0, 1, 1), (1, 2, 1)])


def apart(net):
    """All tuples of two houses that are no neighbours."""
    return [(u, v) for u in range(net[0]) for v in range(net[0]) if u != v and v not in plain.near(net, u)]


def pairs_of(net):
    """All tuples of two neighbours, in order."""
    return sorted(key_table(net, [0] * len(net[1])))


def all_ends(net, keys):
    """All lists of the roads of a new house, each with one of these tuples of keys here and there."""
    return [[(house, *told) for house, told in enumerate(choice) if told]
            for choice in itertools.product([None] + keys, repeat=net[0])]


def rings_of_new(before, after):
    """The stuck rings of a net and a standing that were not there ahead."""
    return [ring for ring in stuck_rings(*after) if ring not in stuck_rings(*before)]


class Examples(unittest.TestCase):
    def test_of_the_document(self):
        path, open_ring = ROW, (3, [(0, 1, 1), (0, 2, 1), (1, 2, 1)])
        self.assertEqual([road_in(path, [0, 0], 0, 2, 1, 0), road_out(open_ring, [0, 0, 0], 2, 0),
                          key_in(path, [0, 0], 1, 0), house_out(path, [1, 0], 0)],
                         [((3, [(0, 1, 1), (0, 2, 1), (1, 2, 1)]), [0, 0, 0]), ((3, [(0, 1, 1), (1, 2, 1)]), [0, 0]),
                          ((3, [(0, 1, 2), (1, 2, 1)]), [0, 0]), ((2, [(0, 1, 1)]), [0])])
        self.assertEqual([house_in(path, [1, 0], [(0, 0, 1), (2, 1, 1)]), key_out((2, [(0, 1, 3)]), [2], 0, 1),
                          house_in((1, []), [], [])],
                         [((4, [(0, 1, 1), (0, 3, 1), (1, 2, 1), (2, 3, 2)]), [1, 0, 0, 1]),
                          ((2, [(0, 1, 2)]), [1]), ((2, []), [])])
        self.assertEqual([ring_by(path, [0, 0], 0, 2, 0, 1), ring_by(path, [0, 0], 0, 2, 1, 0),
                          places_for(path, [0, 0], 0, 2, 1), places_for(path, [1, 0], 2, 0, 2)],
                         [[0, 1, 2], None, [1], [0, 1, 2]])
        self.assertEqual([ring_by_house(path, [0, 0], [(0, 1, 0), (2, 0, 1)]),
                          ring_by_house(path, [0, 0], [(0, 0, 1), (2, 1, 0)]),
                          counts_with(path, [1, 1], [0], 0, 2, 0, 1), kept_counts(path, [1, 1], [0])],
                         [[0, 1, 2, 3], None, [0, 1, 1], []])


class Changed(unittest.TestCase):
    def test_roads_and_keys(self):
        """Held against the keys at each end of each road; what cannot be done is refused."""
        for net, standing in some_cases(150, 271):
            for u, v in itertools.product(range(net[0]), repeat=2):
                for word, function, error in [("out", road_out, InvalidHouse), ("more", key_in, InvalidHouse),
                                              ("less", key_out, (InvalidHouse, InvalidNumber))]:
                    right = plain_changes.changed(net, standing, (word, u, v))
                    if right is None:
                        with self.assertRaises(error):
                            function(net, standing, u, v)
                    else:
                        self.assertEqual(function(net, standing, u, v), right)
                for at_u, at_v in itertools.product(range(3), repeat=2):
                    right = plain_changes.changed(net, standing, ("in", u, v, at_u, at_v))
                    if right is None:
                        with self.assertRaises((InvalidHouse, InvalidNumber)):
                            road_in(net, standing, u, v, at_u, at_v)
                    else:
                        self.assertEqual(road_in(net, standing, u, v, at_u, at_v), right)

    def test_houses(self):
        for net, standing in some_cases(60, 272):
            for ends in all_ends(net, [(0, 1), (2, 0), (1, 3)])[::7]:
                self.assertEqual(house_in(net, standing, ends), plain_changes.changed(net, standing, ("house", ends)))
                there = house_in(net, standing, ends)
                self.assertEqual(house_out(*there, net[0]), (net, standing))
            for house in range(net[0]):
                right = plain_changes.changed(net, standing, ("gone", house))
                if right is None:
                    with self.assertRaises(InvalidHouse):
                        house_out(net, standing, house)
                else:
                    self.assertEqual(house_out(net, standing, house), right)

    def test_there_and_back(self):
        for net, standing in some_cases(80, 273):
            table = key_table(net, standing)
            for u, v in pairs_of(net):
                self.assertEqual(road_in(*road_out(net, standing, u, v), v, u, table[u, v], table[v, u]),
                                 (net, standing))
                self.assertEqual(key_out(*key_in(net, standing, u, v), u, v), (net, standing))
                if table[u, v] and table[u, v] + table[v, u] > 1:
                    self.assertEqual(key_in(*key_out(net, standing, u, v), u, v), (net, standing))

    def test_what_key_out_names(self):
        for net, standing, wrong in [((2, [(0, 1, 3)]), [0], 0), ((2, [(0, 1, 1)]), [0], 0), ((2, [(0, 1, 1)]), [1], 1)]:
            with self.assertRaises(InvalidNumber) as caught:
                key_out(net, standing, 0, 1)
            self.assertEqual(repr(caught.exception.value), repr(wrong))
        self.assertEqual(key_out((2, [(0, 1, 2)]), [1], 1, 0), ((2, [(0, 1, 1)]), [1]))

    def test_at_and_beyond_the_limits(self):
        net, standing = complete(12, 9), [(7 * at) % 8 + 1 for at in range(66)]
        self.assertEqual(key_in(net, standing, 0, 1)[0][1][0], (0, 1, 10))
        there = house_in(net, standing, [(house, house, 1) for house in range(12)])
        self.assertEqual(there[0][0], 13)
        self.assertEqual(house_out(*there, 12), (net, standing))
        self.assertEqual(len(house_out(net, standing, 5)[1]), 55)
        self.assertEqual(road_in((2, []), [], 1, 0, 10 ** 29, 7), ((2, [(0, 1, 10 ** 29 + 7)]), [10 ** 29]))


class Rings(unittest.TestCase):
    def cases(self, many, seed):
        chance = random.Random(seed)
        found = [case for case in some_cases() if apart(case[0])]
        found = chance.sample(found, min(many, len(found)))
        while len(found) < 2 * many:
            net, standing = plain.random_case(chance, chance.choice((4, 5)), 2, 0.6)
            if apart(net):
                found.append((net, standing))
        return found

    def test_new_roads(self):
        seen = [0, 0]
        for net, standing in self.cases(60, 274):
            for u, v in apart(net):
                zero = {pair: least_length(net, standing, [pair[0]], pair[1]) == 0 for pair in ((u, v), (v, u))}
                for at_u, at_v in [(0, 1), (1, 0), (0, 2), (2, 0), (1, 1), (2, 1)]:
                    there = road_in(net, standing, u, v, at_u, at_v)
                    right = [ring for ring in stuck_rings(*there)
                             if (u, v) in rounds(ring) or (v, u) in rounds(ring)]
                    self.assertEqual(ring_by(net, standing, u, v, at_u, at_v), right[0] if right else None)
                    # A new road makes a stuck ring that was not there exactly if the least lengths tell so.
                    self.assertEqual(rings_of_new((net, standing), there), right)
                    self.assertIs(bool(right), at_v == 0 and zero[v, u] or at_u == 0 and zero[u, v])
                    seen[bool(right)] += 1
                for many in (1, 2, 3, 9):
                    free = [at_u for at_u in range(many + 1)
                            if ring_by(net, standing, u, v, at_u, many - at_u) is None]
                    self.assertEqual(places_for(net, standing, u, v, many), free)
                    self.assertEqual(free, [0] * (not zero[u, v]) + list(range(1, many)) + [many] * (not zero[v, u]))
                    self.assertTrue(free or many == 1 and zero[u, v] and zero[v, u])
                if plain.is_free(net, standing):
                    self.assertTrue(places_for(net, standing, u, v, 1))
        self.assertGreater(min(seen), 50)

    def test_new_houses(self):
        chance = random.Random(275)
        seen = [0, 0]
        for net, standing in self.cases(40, 276) + [(RING, [0, 1, 0]), (TAIL, [0, 1, 0, 1])]:
            choices = all_ends(net, [(0, 1), (1, 0), (1, 1)])
            for ends in chance.sample(choices, min(len(choices), 20)):
                there = house_in(net, standing, ends)
                right = [ring for ring in stuck_rings(*there) if net[0] in ring]
                self.assertEqual(ring_by_house(net, standing, ends), right[0] if right else None)
                told = any(here == 0 and away == 0 and least_length(net, standing, [v], u) == 0
                           for u, here, _ in ends for v, _, away in ends if u != v)
                self.assertIs(bool(right), told)
                self.assertEqual(rings_of_new((net, standing), there), right)
                seen[bool(right)] += 1
        self.assertGreater(min(seen), 50)

    def test_what_never_makes_a_stuck_ring(self):
        for net, standing in some_cases(100, 277):
            for u, v in pairs_of(net):
                for there in (road_out(net, standing, u, v), key_in(net, standing, u, v)):
                    self.assertEqual(rings_of_new((net, standing), there), [])
            if net[0] > 1 and plain.is_free(net, standing):
                for house in range(net[0]):
                    self.assertEqual(stuck_rings(*house_out(net, standing, house)), [])

    def test_the_first_one_among_stuck_rings_that_were_there(self):
        """In dense nets with many stuck rings, held against all rings."""
        chance = random.Random(278)
        found = 0
        for _ in range(25):
            net, standing = plain.random_case(chance, 6, 1, 0.9)
            for u, v in apart(net)[:3]:
                right = [ring for ring in stuck_rings(*road_in(net, standing, u, v, 0, 1)) if (v, u) in rounds(ring)]
                self.assertEqual(ring_by(net, standing, u, v, 0, 1), right[0] if right else None)
                found += bool(right)
            ends = [(house, *chance.choice([(0, 1), (1, 0)])) for house in range(6) if chance.random() < 0.6]
            right = [ring for ring in stuck_rings(*house_in(net, standing, ends)) if 6 in ring]
            self.assertEqual(ring_by_house(net, standing, ends), right[0] if right else None)
            found += bool(right)
        self.assertGreater(found, 15)

    def test_at_the_limits(self):
        chance = random.Random(279)
        net = complete(12, 1)
        for _ in range(5):
            standing = [chance.randint(0, 1) for _ in range(66)]
            ends = [(house, *chance.choice([(0, 1), (1, 0)])) for house in range(12)]
            ring = ring_by_house(net, standing, ends)
            there = house_in(net, standing, ends)
            self.assertEqual(plain.ring_length(key_table(*there), ring), 0)
            less = road_out(net, standing, 3, 8)
            for at_u, at_v in ((0, 1), (1, 0)):
                ring = ring_by(*less, 3, 8, at_u, at_v)
                if ring is not None:
                    self.assertEqual(plain.ring_length(key_table(*road_in(*less, 3, 8, at_u, at_v)), ring), 0)
                    self.assertTrue({(3, 8), (8, 3)} & rounds(ring))
        # All that the new house waits for leads over one house to all that waits for it: rings of old
        # houses, of which there are many, but none over the new one.
        hub = [(low, high, 1) for low, high in itertools.combinations(range(12), 2) if high < 10]
        hub += [(4, 10, 1), (4, 11, 1)]
        roads = sorted(hub)
        standing = [0 if road[1] == 10 else 1 if road[1] == 11 else chance.randint(0, 1) for road in roads]
        self.assertIsNone(ring_by_house((12, roads), standing, [(10, 1, 0), (11, 1, 0)]))
        row = (12, [(at, at + 1, 9) for at in range(11)])
        self.assertEqual(ring_by(row, [0] * 11, 0, 11, 0, 9), list(range(12)))
        self.assertEqual(places_for(row, [0] * 11, 0, 11, 9), list(range(1, 10)))


def rounds(ring):
    """The steps of a ring."""
    return set(zip(ring, ring[1:] + ring[:1]))


class Counts(unittest.TestCase):
    def test_with_a_new_road(self):
        chance = random.Random(280)
        for net, standing in Rings().cases(50, 281):
            resting = [house for house in range(net[0]) if chance.random() < 0.3]
            before = counts(net, standing, resting)
            for u, v in apart(net):
                at_u, at_v = chance.choice([(0, 1), (1, 0), (1, 1), (2, 0), (0, 3)])
                told = counts_with(net, standing, resting, u, v, at_u, at_v)
                there = road_in(net, standing, u, v, at_u, at_v)
                ends = resting + plain.stuck_houses(*there)
                self.assertEqual(told, [least_length(*there, ends, house) for house in range(net[0])])
                if ring_by(net, standing, u, v, at_u, at_v) is None:
                    self.judge_formula(net, standing, resting + plain.stuck_houses(net, standing), told,
                                       [(u, at_v, v), (v, at_u, u)])
                    self.assertTrue(not_greater(told, before))

    def judge_formula(self, net, standing, ends, told, ways):
        """The least lengths in the net ahead alone."""
        for house in range(net[0]):
            sums = [least_length(net, standing, ends, house)]
            for one, keys, other in ways:
                first = least_length(net, standing, ends, one)
                last = least_length(net, standing, [other], house)
                sums.append(None if first is None or last is None else first + keys + last)
            self.assertEqual(told[house], min([item for item in sums if item is not None], default=None))

    def test_less_roads_and_more_keys_never_make_a_count_less(self):
        chance = random.Random(282)
        for net, standing in some_cases(80, 283):
            resting = [house for house in range(net[0]) if chance.random() < 0.4]
            before = counts(net, standing, resting)
            for u, v in pairs_of(net):
                self.assertTrue(not_greater(before, counts(*road_out(net, standing, u, v), resting)))
                self.assertTrue(not_greater(before, counts(*key_in(net, standing, u, v), resting)))

    def test_kept_counts(self):
        chance = random.Random(284)
        seen = [0, 0]
        cases = some_cases(60, 285) + [plain.random_case(chance, 4, 3, 0.8) for _ in range(40)]
        for net, standing in cases:
            resting = [house for house in range(net[0]) if chance.random() < 0.4]
            right = []
            for u, v in pairs_of(net):
                there = plain_changes.changed(net, standing, ("less", u, v))
                if there is not None:
                    same = counts(*there, resting) == counts(net, standing, resting)
                    seen[same] += 1
                    if same:
                        right.append((u, v))
            self.assertEqual(kept_counts(net, standing, resting), right)
        self.assertGreater(min(seen), 20)
        self.assertEqual(kept_counts((1, []), [], []), [])
        self.assertEqual(kept_counts((2, [(0, 1, 2)]), [2], [0]), [])
        self.assertEqual(kept_counts((2, [(0, 1, 2)]), [0], [0]), [(1, 0)])
        self.assertEqual(kept_counts((2, [(0, 1, 2)]), [1], []), [(0, 1), (1, 0)])

    def test_at_the_limits(self):
        net, standing = complete(12, 9), [(7 * at) % 8 + 1 for at in range(66)]
        right = [(u, v) for u, v in pairs_of(net) if counts(*key_out(net, standing, u, v), [0, 6]) == counts(
            net, standing, [0, 6])]
        self.assertEqual(kept_counts(net, standing, [0, 6]), right)
        less = road_out(net, standing, 2, 9)
        self.assertEqual(counts_with(*less, [0], 2, 9, 4, 5), counts(*road_in(*less, 2, 9, 4, 5), [0]))


def not_greater(some, others):
    """Whether no number of a list is greater than that of another one, None counting as greater than all."""
    return all(two is None or one is not None and one <= two for one, two in zip(some, others))


class Errors(unittest.TestCase):
    def test_houses_of_roads(self):
        for call in (road_out, key_in, key_out):
            for u, v, wrong in [(3, None, 3), (True, 0, True), (0, 2, 2), (0, 0, 0), (0, True, True), (None, 1, None),
                                (0, 3, 3), (2, 0, 0)]:
                with self.assertRaises(InvalidHouse) as caught:
                    call(ROW, [1, 0], u, v)
                self.assertIs(caught.exception.value, wrong)

    def test_new_roads(self):
        calls = [lambda *told: road_in(ROW, [1, 0], *told), lambda *told: ring_by(ROW, [1, 0], *told),
                 lambda *told: counts_with(ROW, [1, 0], [0], *told)]
        for u, v, at_u, at_v, error, wrong in [
                (3, None, None, None, InvalidHouse, 3), (True, 0, 0, 0, InvalidHouse, True),
                (0, 1, None, None, InvalidHouse, 1), (2, 1, 0, 0, InvalidHouse, 1), (0, 0, 1, 1, InvalidHouse, 0),
                (0, True, 1, 1, InvalidHouse, True), (0, 3, 1, 1, InvalidHouse, 3), (0, 2, -1, None, InvalidNumber, -1),
                (0, 2, True, 1, InvalidNumber, True), (0, 2, None, 1, InvalidNumber, None),
                (0, 2, 1, -1, InvalidNumber, -1), (0, 2, 0, False, InvalidNumber, False), (0, 2, 0, 0, InvalidNumber, 0),
                (0, 2, 1, "1", InvalidNumber, "1"), (0, 2, 1, [1], InvalidNumber, [1])]:
            for call in calls:
                with self.assertRaises(error) as caught:
                    call(u, v, at_u, at_v)
                self.assertEqual(repr(caught.exception.value), repr(wrong))
        for u, v, many, error, wrong in [(3, None, None, InvalidHouse, 3), (0, 1, 1, InvalidHouse, 1),
                                         (0, 0, 1, InvalidHouse, 0), (0, 2, 0, InvalidNumber, 0),
                                         (0, 2, True, InvalidNumber, True), (0, 2, -3, InvalidNumber, -3),
                                         (0, 2, None, InvalidNumber, None)]:
            with self.assertRaises(error) as caught:
                places_for(ROW, [1, 0], u, v, many)
            self.assertEqual(repr(caught.exception.value), repr(wrong))

    def test_new_houses(self):
        for wrong in (None, (), ((0, 1, 1),), [None], [(0, 1)], [[0, 1, 1]], [(0, 0, 0)], [(0, -1, 2)], [(0, 1, -1)],
                      [(3, 1, 1)], [(True, 1, 1)], [(0, True, 1)], [(0, 1, False)], [(0, 1, 1), (0, 1, 1)],
                      [(1, 1, 1), (0, 1, 1)], [(0, 1, 1, 1)], [("0", 1, 1)], {}, "", 0):
            for call in (house_in, ring_by_house):
                with self.assertRaises(InvalidHouses) as caught:
                    call(ROW, [1, 0], wrong)
                self.assertIs(caught.exception.value, wrong)

    def test_houses_and_resting_ones(self):
        for net, wrong in [(ROW, 3), (ROW, True), (ROW, None), (ROW, "0"), (ROW, -1), ((1, []), 0), ((1, []), 1)]:
            with self.assertRaises(InvalidHouse) as caught:
                house_out(net, [0] * len(net[1]), wrong)
            self.assertIs(caught.exception.value, wrong)
        for wrong in (None, [1, 0], [0, 0], [3], [True], (0,), "0"):
            for call in (kept_counts, lambda net, standing, resting: counts_with(net, standing, resting, None, 0, 0, 0)):
                with self.assertRaises(InvalidHouses) as caught:
                    call(PATH, [1, 0], wrong)
                self.assertIs(caught.exception.value, wrong)


if __name__ == "__main__":
    unittest.main()
