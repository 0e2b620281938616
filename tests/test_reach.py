"""[31] to [34]: standings that come of one another."""

import itertools
import random
import unittest

from keyroads.errors import InvalidNet, InvalidStanding
from keyroads.reach import (barring, closed_rings, is_barring, is_run_between, ring_marks, round_trip, run_between,
                            works_between)
from tests import plain
from tests.plain import PATH, RING, TAIL, complete, some_cases
from tests.values import any_values

HUNG = (4, [(0, 1, 1), (1, 2, 1), (1, 3, 1), (2, 3, 1)])
# Two rings in two parts, and one with a tail at either side.
TWO = (6, [(0, 1, 1), (0, 2, 1), (1, 2, 1), (3, 4, 1), (3, 5, 1), (4, 5, 1)])
TAILS = (5, [(0, 1, 1), (0, 2, 1), (1, 2, 1), (1, 3, 2), (2, 4, 1)])
# Two rings with a road between them.
BRIDGE = (6, [(0, 1, 1), (0, 2, 1), (1, 2, 1), (2, 3, 2), (3, 4, 1), (3, 5, 1), (4, 5, 1)])
EIGHT = (5, [(0, 1, 1), (0, 2, 1), (1, 2, 1), (2, 3, 1), (2, 4, 1), (3, 4, 1)])


def nets():
    """Small nets, with several parts and with several rings among them."""
    return plain.some_nets() + [HUNG, TWO, TAILS, EIGHT, BRIDGE, (4, [(0, 1, 2), (1, 2, 1)]), (5, TAIL[1])]


def pairs_of_standings(net, most, seed):
    """All pairs of standings of a net, or so many of them."""
    pairs = list(itertools.product(plain.standings_of(net), repeat=2))
    return pairs if len(pairs) <= most else random.Random(seed).sample(pairs, most)


def changes_of(net, standing, other):
    """How many more keys lie ahead in the other standing, for each direction."""
    one, two = plain.key_table(net, standing), plain.key_table(net, other)
    return {pair: two[pair] - one[pair] for pair in one}


def plain_barring(net, standing, other):
    """The first ring, or else the first way, that bars, over all of them."""
    changes = changes_of(net, standing, other)
    for ring in plain.all_rings(net):
        if plain.ring_length(changes, ring) != 0:
            return ("ring", ring)
    stuck = plain.stuck_houses(net, standing)
    ways = sorted(way for start in stuck for way in plain.simple_ways(net, start) if bars(changes, stuck, way))
    return ("way", ways[0]) if ways else None


def bars(changes, stuck, way):
    """Whether a way from a stuck house bars."""
    more = plain.length(changes, way)
    return more > 0 or (more < 0 and way[-1] in stuck)


class Examples(unittest.TestCase):
    def test_of_the_document(self):
        self.assertEqual([works_between(PATH, [0, 2], [1, 0]), works_between(PATH, [1, 1], [1, 1]),
                          round_trip(PATH, [0, 2], [1, 0]), is_run_between(PATH, [0, 2], [0, 1], [2])],
                         [[1, 0, 2], [0, 0, 0], [2, 2, 2], True])
        self.assertEqual([ring_marks(RING, [1, 1, 1]), ring_marks(RING, [0, 0, 0]), closed_rings(RING),
                          works_between(RING, [1, 1, 1], [0, 1, 0]), barring(RING, [1, 1, 1], [0, 1, 0])],
                         [[2], [1], [[0, 1, 2]], None, ("ring", [0, 1, 2])])
        self.assertEqual([works_between(TAIL, [0, 1, 0, 1], [0, 1, 0, 0]),
                          works_between(TAIL, [0, 1, 0, 0], [0, 1, 0, 1]),
                          barring(TAIL, [0, 1, 0, 0], [0, 1, 0, 1])],
                         [[0, 0, 0, 1], None, ("way", [0, 1, 2, 3])])
        self.assertEqual([barring(HUNG, [1, 0, 1, 0], [0, 0, 1, 0]),
                          is_barring(HUNG, [1, 0, 1, 0], [0, 0, 1, 0], ("way", [0, 1]))],
                         [("way", [1, 0]), False])


class Works(unittest.TestCase):
    def test_over_all_runs(self):
        for net in nets():
            for standing in plain.standings_of(net):
                later = plain.later(net, standing)
                for other in plain.standings_of(net):
                    told = works_between(net, standing, other)
                    if tuple(other) in later:
                        self.assertEqual(told, list(later[tuple(other)]))
                    else:
                        self.assertIsNone(told)

    def test_works_of_every_run_that_leads_there(self):
        """In a part without a stuck ring they may be more, by one number; in all others they are just these."""
        for net, standing in some_cases(60, 71) + [(TAIL, [0, 1, 0, 1]), (TWO, [0, 1, 0, 1, 1, 1])]:
            stuck = plain.stuck_houses(net, standing)
            for works, other in plain.lists_by_runs(net, standing, 3 if net[0] < 5 else 2).items():
                fewest = works_between(net, standing, other)
                for part in plain.joined_parts(net):
                    more = {works[house] - fewest[house] for house in part}
                    self.assertEqual(len(more), 1)
                    self.assertGreaterEqual(min(more), 0)
                    if set(part) & set(stuck):
                        self.assertEqual(more, {0})

    def test_as_often_more_as_one_likes(self):
        there = run_between(PATH, [0, 2], [1, 0])
        for more in range(3):
            self.assertTrue(is_run_between(PATH, [0, 2], [1, 0], there + [1, 0, 2] * more))
        self.assertTrue(is_run_between((2, []), [], [], [1, 1, 0]))
        self.assertEqual(works_between((2, []), [], []), [0, 0])
        self.assertEqual(works_between((1, []), [], []), [0])

    def test_several_parts_of_which_one_is_stuck(self):
        held = [0, 1, 0]
        self.assertEqual(works_between(TWO, held + [1, 1, 1], held + [0, 0, 1]), [0, 0, 0, 0, 1, 1])
        self.assertEqual(works_between(TWO, held + [0, 0, 1], held + [1, 1, 1]), [0, 0, 0, 1, 0, 0])
        self.assertEqual(round_trip(TWO, held + [1, 1, 1], held + [0, 0, 1]), [0, 0, 0, 1, 1, 1])
        self.assertIsNone(works_between(TWO, held + [1, 1, 1], [1, 0, 1, 0, 0, 1]))
        self.assertIsNone(round_trip(TWO, held + [1, 1, 1], [1, 1, 1, 1, 1, 1]))

    def test_two_stuck_rings_of_one_part(self):
        """A key of the road between them would have to go over by works of houses that never work."""
        for ring, later in itertools.product(([0, 1, 0], [1, 0, 1]), repeat=2):
            for one, other in itertools.permutations(range(3), 2):
                standing, there = ring + [one] + later, ring + [other] + later
                self.assertIsNone(works_between(BRIDGE, standing, there))
                self.assertIsNone(run_between(BRIDGE, standing, there))
                self.assertEqual(barring(BRIDGE, standing, there)[0], "way")
                self.assertEqual(barring(BRIDGE, standing, there), plain_barring(BRIDGE, standing, there))
                self.assertTrue(is_barring(BRIDGE, standing, there, ("way", [2, 3])))
                self.assertTrue(is_barring(BRIDGE, standing, there, ("way", [3, 2])))
                self.assertFalse(is_barring(BRIDGE, standing, there, ("ways", [2, 3])))
                self.assertFalse(is_barring(BRIDGE, standing, there, (None, [2, 3])))

    def test_some_run(self):
        for net in nets():
            for standing, other in pairs_of_standings(net, 150, 72):
                works = works_between(net, standing, other)
                run = run_between(net, standing, other)
                if works is None:
                    self.assertIsNone(run)
                else:
                    self.assertTrue(plain.is_run(net, standing, run))
                    self.assertEqual(plain.behind(net, standing, run), other)
                    self.assertEqual([run.count(house) for house in range(net[0])], works)
                    self.assertTrue(is_run_between(net, standing, other, run))

    def test_what_is_a_run_between(self):
        for net, standing in some_cases(40, 73) + [(TAIL, [0, 1, 0, 1])]:
            others = plain.standings_of(net)
            others = others if len(others) < 10 else random.Random(74).sample(others, 10)
            for many in range(4):
                for run in itertools.product(range(net[0]), repeat=many):
                    ends = plain.behind(net, standing, run) if plain.is_run(net, standing, run) else None
                    for other in others:
                        self.assertIs(is_run_between(net, standing, other, list(run)), ends == other)

    def test_other_values_are_no_runs_between(self):
        for value in any_values():
            self.assertIs(is_run_between((2, [(0, 1, 1)]), [1], [0], value), repr(value) in ("[1]", "[1, 0, 1]"), value)
            self.assertIs(is_run_between((2, [(0, 1, 1)]), [1], [1], value), repr(value) in ("[]", "[1, 0]"), value)
        self.assertFalse(is_run_between((2, [(0, 1, 1)]), [1], [0], [True]))
        self.assertFalse(is_run_between((2, [(0, 1, 1)]), [1], [0], (1,)))

    def test_round_trips(self):
        for net in nets():
            parts = plain.joined_parts(net)
            for standing, other in pairs_of_standings(net, 150, 75):
                there, back = plain.later(net, standing), plain.later(net, other)
                told = round_trip(net, standing, other)
                if tuple(other) not in there or tuple(standing) not in back:
                    self.assertIsNone(told)
                    continue
                works = there[tuple(other)]
                self.assertEqual(told, [one + two for one, two in zip(works, back[tuple(standing)])])
                for part in parts:
                    self.assertEqual({told[house] for house in part}, {max(works[house] for house in part)})

    def test_of_itself(self):
        for net, standing in some_cases():
            self.assertEqual(works_between(net, standing, list(standing)), [0] * net[0])
            self.assertEqual(run_between(net, standing, list(standing)), [])
            self.assertEqual(round_trip(net, standing, list(standing)), [0] * net[0])
            self.assertIsNone(barring(net, standing, list(standing)))

    def test_at_the_limits(self):
        row = (12, [(at, at + 1, 9) for at in range(11)])
        self.assertEqual(works_between(row, [0] * 11, [9] * 11), [9 * (11 - at) for at in range(12)])
        run = run_between(row, [0] * 11, [9] * 11)
        self.assertEqual(len(run), 9 * 66)
        self.assertTrue(is_run_between(row, [0] * 11, [9] * 11, run))
        self.assertEqual(round_trip(row, [0] * 11, [9] * 11), [99] * 12)
        net = complete(12, 9)
        chance = random.Random(76)
        standing = [5] * 66
        run = []
        for _ in range(200):
            house = chance.choice([house for house in range(12) if plain.can_work(net, standing, house)])
            standing = plain.work(net, standing, house)
            run.append(house)
        works = [run.count(house) - min(run.count(other) for other in range(12)) for house in range(12)]
        self.assertEqual(works_between(net, [5] * 66, standing), works)
        self.assertTrue(is_run_between(net, [5] * 66, standing, run))
        self.assertIsNone(barring(net, [5] * 66, standing))
        self.assertIsNone(works_between(net, [5] * 66, [5] * 65 + [4]))

    def test_beyond_the_limits(self):
        net = (15, [(at, at + 1, 12) for at in range(14)])
        self.assertEqual(works_between(net, [12] * 14, [0] + [12] * 13), [0] + [12] * 14)


class Papers(unittest.TestCase):
    def test_over_all_rings_and_ways(self):
        for net in nets():
            for standing, other in pairs_of_standings(net, 400, 77):
                told = barring(net, standing, other)
                self.assertEqual(told, plain_barring(net, standing, other))
                self.assertEqual(told is None, tuple(other) in plain.later(net, standing))
                if told is not None:
                    self.assertTrue(is_barring(net, standing, other, told))

    def test_random_nets_with_alike_rings(self):
        """Keys are shifted as by works that may be below 0, so that ways alone can bar."""
        chance = random.Random(78)
        by_ways = 0
        for _ in range(150):
            net, standing = plain.random_case(chance, 6, 2, 0.4)
            others = []
            for works in itertools.product((-1, 0, 1), repeat=5):
                works += (0,)
                other = [keys + works[low] - works[high] for (low, high, _), keys in zip(net[1], standing)]
                if all(0 <= keys <= many for (_, _, many), keys in zip(net[1], other)):
                    others.append(other)
            for other in chance.sample(others, min(5, len(others))):
                told = barring(net, standing, other)
                self.assertEqual(told, plain_barring(net, standing, other))
                by_ways += told is not None and told[0] == "way"
        self.assertGreater(by_ways, 30)

    def test_what_bars(self):
        for net in [RING, TAIL, HUNG, TWO, TAILS, PATH, (2, [(0, 1, 1)]), (2, [])]:
            rings = [list(ring) for size in range(3, net[0] + 1) for ring in itertools.permutations(range(net[0]), size)]
            ways = [list(way) for size in range(1, 5) for way in itertools.product(range(net[0]), repeat=size)]
            for standing, other in pairs_of_standings(net, 12, 79):
                changes = changes_of(net, standing, other)
                stuck = plain.stuck_houses(net, standing)
                right = plain.all_rings(net)
                for ring in rings:
                    bar = ring in right and plain.ring_length(changes, ring) != 0
                    self.assertIs(is_barring(net, standing, other, ("ring", ring)), bar)
                for way in ways:
                    fits = all(pair in changes for pair in zip(way, way[1:])) and way[0] in stuck
                    self.assertIs(is_barring(net, standing, other, ("way", way)), fits and bars(changes, stuck, way))

    def test_both_kinds_at_once(self):
        standing, other = [1, 0, 1, 1], [1, 1, 1, 0]
        self.assertEqual(barring(TAIL, standing, other), ("ring", [0, 1, 2]))
        self.assertTrue(is_barring(TAIL, standing, other, ("ring", [0, 2, 1])))
        self.assertTrue(is_barring(TAIL, standing, other, ("way", [0, 2])))
        self.assertTrue(is_barring(TAIL, standing, other, ("way", [2, 0])))
        self.assertFalse(is_barring(TAIL, standing, other, ("way", [2, 3])))
        self.assertTrue(is_barring(TAIL, [1, 0, 1, 0], [1, 0, 1, 1], ("way", [2, 3, 2, 3])))

    def test_other_values_bar_nothing(self):
        right = ["('ring', [0, 1, 2])", "('ring', [0, 2, 1])"]
        for value in any_values() + [("ring", [0, 1]), ("ring", [0, True, 2]), ["ring", [0, 1, 2]], ("ring",), ("way",),
                                     ("ring", [0, 1, 2, 0]), ("way", []), ("way", [0]), ("way", (0, 1)), (True, [0, 1]),
                                     ("way", [False, 1]), ("way", 0), ("rings", [0, 1, 2]), ("way", [0, 1], 1)]:
            self.assertIs(is_barring(RING, [1, 1, 1], [0, 1, 0], value), repr(value) in right, value)
            self.assertFalse(is_barring(RING, [1, 1, 1], [1, 1, 1], value))

    def test_at_its_limit(self):
        net = complete(8, 9)
        self.assertEqual(barring(net, [5] * 28, [5] * 27 + [4]), ("ring", [0, 1, 2, 3, 4, 5, 6, 7]))
        self.assertEqual(barring(net, [5] * 28, [4] + [5] * 27), ("ring", [0, 1, 2]))
        # All rings of the first six houses are alike, and stand ahead of the one that is not.
        late = (8, complete(6, 9)[1][:-1] + [(4, 5, 9), (5, 6, 9), (5, 7, 9), (6, 7, 9)])
        self.assertEqual(barring(late, [5] * 18, [5] * 17 + [4]), ("ring", [5, 6, 7]))
        stuck = [0] * 28
        self.assertEqual(barring(net, stuck, [0] * 28), None)


class Marks(unittest.TestCase):
    def test_closed_rings_over_all_ways(self):
        for net in nets() + [complete(5, 1), complete(6, 2)]:
            kept, right = [], []
            for low, high, many in net[1]:
                ways = [way for way in plain.simple_ways((net[0], kept), high) if way[-1] == low]
                if ways:
                    self.assertEqual(len(ways), 1)
                    at = ways[0].index(min(ways[0]))
                    right.append(ways[0][at:] + ways[0][:at])
                else:
                    kept.append((low, high, many))
            self.assertEqual(closed_rings(net), right)
            for ring in right:
                self.assertIn(ring, plain.all_rings(net))

    def test_the_road_is_gone_from_its_low_house(self):
        self.assertEqual(closed_rings((4, [(0, 2, 1), (0, 3, 1), (1, 2, 1), (1, 3, 1)])), [[0, 2, 1, 3]])
        self.assertEqual(closed_rings((4, [(0, 1, 1), (0, 3, 1), (1, 2, 1), (2, 3, 1)])), [[0, 1, 2, 3]])
        self.assertEqual(closed_rings((4, [(0, 1, 1), (0, 2, 1), (1, 2, 1), (2, 3, 1)])), [[0, 1, 2]])

    def test_marks_are_lengths(self):
        for net, standing in some_cases(200, 80):
            table = plain.key_table(net, standing)
            self.assertEqual(ring_marks(net, standing), [plain.ring_length(table, ring) for ring in closed_rings(net)])

    def test_alike_exactly_if_all_rings_are(self):
        for net in nets():
            rings = plain.all_rings(net)
            for one, other in pairs_of_standings(net, 200, 81):
                tables = plain.key_table(net, one), plain.key_table(net, other)
                lengths = [[plain.ring_length(table, ring) for ring in rings] for table in tables]
                same = ring_marks(net, one) == ring_marks(net, other)
                self.assertEqual(same, lengths[0] == lengths[1])
                if plain.is_free(net, one) and plain.is_free(net, other):
                    self.assertEqual(works_between(net, one, other) is not None, same)

    def test_no_rings(self):
        for net in [(1, []), (2, []), PATH, (4, [(0, 1, 1), (2, 3, 1)])]:
            self.assertEqual(closed_rings(net), [])
            self.assertEqual(ring_marks(net, [0] * len(net[1])), [])

    def test_at_the_limits(self):
        found = closed_rings(complete(12, 9))
        self.assertEqual(len(found), 66 - 11)
        self.assertEqual(found, [[0, low, high] for low, high in itertools.combinations(range(1, 12), 2)])
        self.assertEqual(ring_marks(complete(12, 9), [0] * 66), [9] * 55)


class Errors(unittest.TestCase):
    def test_in_the_order_of_the_arguments(self):
        for call in (works_between, run_between, round_trip, barring,
                     lambda net, standing, other: is_run_between(net, standing, other, []),
                     lambda net, standing, other: is_barring(net, standing, other, ("way", [0]))):
            for arguments, error, at in [((None, None, None), InvalidNet, 0), ((PATH, [1], [9]), InvalidStanding, 1),
                                         ((PATH, [1, 2], [9, 9]), InvalidStanding, 2),
                                         ((PATH, [1, 2], (1, 2)), InvalidStanding, 2),
                                         ((PATH, [1, 2], [True, 2]), InvalidStanding, 2),
                                         ((PATH, [1, True], [1, 2]), InvalidStanding, 1)]:
                with self.assertRaises(error) as caught:
                    call(*arguments)
                self.assertIs(caught.exception.value, arguments[at])


if __name__ == "__main__":
    unittest.main()
