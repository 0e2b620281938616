"""[15] to [19]: stuck rings."""

import itertools
import math
import random
import unittest

from keyroads.errors import InvalidWay, TooMany
from keyroads.lists import needed_works, run_for
from keyroads.nets import all_standings, is_way, way_length
from keyroads.stuck import (freeing, held_by, how_many_free, is_freeing, is_numbering, is_stuck_ring, never_working,
                            numbering, put_ahead, stuck_houses, stuck_ring, stuck_rings)
from tests import plain
from tests.plain import PATH, RING, TAIL, complete, some_cases, some_nets
from tests.values import any_values

NET = (4, [(0, 1, 1), (0, 2, 1), (1, 2, 1), (2, 3, 2)])
# Eight houses with single keys: the standings have just 200 stuck rings, and just 201.
NET_200 = (8, [road for road in complete(8, 1)[1] if road != (3, 6, 1)])
HELD_200 = [int(keys) for keys in "001101101000001101100010010"]
HELD_201 = [int(keys) for keys in "1010110111110110001101101001"]


def chance_cases(seed, many, houses, keys, density):
    chance = random.Random(seed)
    return [plain.random_case(chance, houses, keys, density) for _ in range(many)]


def fewest_away(net, standing):
    """How few directions without a key ahead have to go until the others have no ring: over all rows of houses."""
    pairs = [pair for pair, keys in plain.key_table(net, standing).items() if keys == 0]
    return min(sum(1 for u, v in pairs if row.index(u) > row.index(v))
               for row in itertools.permutations(range(net[0])))


def all_moves(net, standing, many):
    """All lists of so many moves, in order."""
    table = plain.key_table(net, standing)
    open_pairs = sorted((u, v) for u, v in table if table[v, u] > 0)
    return [list(moves) for moves in itertools.combinations(open_pairs, many)
            if not any((v, u) in moves for u, v in moves)]


def carried(net, standing, moves):
    """The standing behind moves."""
    return [at_high + moves.count((low, high)) - moves.count((high, low))
            for (low, high, _), at_high in zip(net[1], standing)]


class Examples(unittest.TestCase):
    def test_rings_and_numberings(self):
        self.assertEqual([stuck_ring(NET, [1, 0, 1, 1]), stuck_rings(NET, [0, 1, 0, 1]), stuck_ring(NET, [1, 1, 1, 1]),
                          is_stuck_ring(NET, [1, 0, 1, 1], [0, 1, 2])],
                         [[0, 2, 1], [[0, 1, 2]], None, False])
        self.assertEqual([numbering(NET, [1, 1, 1, 1]), numbering(NET, [1, 0, 1, 1]),
                          is_numbering(NET, [1, 1, 1, 1], [3, 2, 1, 0]), is_numbering(NET, [1, 1, 1, 1], [1, 2, 0, 3])],
                         [[2, 1, 0, 3], None, True, False])

    def test_who_is_stuck_and_how_it_is_freed(self):
        self.assertEqual([stuck_houses(NET, [1, 0, 1, 1]), never_working(NET, [1, 0, 1, 1]),
                          never_working(NET, [1, 0, 1, 0]), held_by(NET, [1, 0, 1, 0], 3), held_by(NET, [1, 0, 1, 1], 3),
                          held_by(NET, [1, 0, 1, 0], 2)],
                         [[0, 1, 2], [0, 1, 2], [0, 1, 2, 3], [0, 2, 3], None, [0, 2]])
        self.assertEqual([freeing(NET, [1, 0, 1, 1]), put_ahead(NET, [1, 0, 1, 1], [(0, 2)]),
                          is_freeing(NET, [1, 0, 1, 1], [(2, 1)]), freeing(NET, [1, 1, 1, 1]), how_many_free(NET)],
                         [[(0, 2)], [1, 1, 1, 1], True, [], 18])


class Rings(unittest.TestCase):
    def test_all_of_them(self):
        cases = some_cases() + chance_cases(11, 60, 5, 1, 0.9) + chance_cases(12, 30, 6, 1, 0.9)
        for net, standing in cases:
            right = plain.stuck_rings(net, standing)
            self.assertEqual(stuck_rings(net, standing), right)
            self.assertEqual(stuck_ring(net, standing), right[0] if right else None)
            self.assertEqual(stuck_houses(net, standing), plain.stuck_houses(net, standing))
            for ring in plain.all_rings(net):
                self.assertIs(is_stuck_ring(net, standing, ring), ring in right)

    def test_other_values(self):
        for value in any_values() + [[1, 2, 0], [0, 2, 1], (0, 1, 2), [0, 1, 2, 0], [False, 1, 2], [0, 1]]:
            right = type(value) is list and repr(value) == "[0, 1, 2]"
            self.assertIs(is_stuck_ring(RING, [0, 1, 0], value), right)

    def test_works_change_no_ring(self):
        for net, standing in some_cases(60, 8):
            lengths = [plain.ring_length(plain.key_table(net, standing), ring) for ring in plain.all_rings(net)]
            for works, behind in plain.lists_by_runs(net, standing, 2).items():
                table = plain.key_table(net, behind)
                self.assertEqual([plain.ring_length(table, ring) for ring in plain.all_rings(net)], lengths)
                self.assertEqual(stuck_rings(net, behind), stuck_rings(net, standing))
                self.assertFalse([house for house in stuck_houses(net, standing) if works[house]])

    def test_the_bound(self):
        found = stuck_rings(NET_200, HELD_200)
        self.assertEqual((len(found), found), (200, sorted(found)))
        with self.assertRaises(TooMany) as caught:
            stuck_rings(complete(8, 1), HELD_201)
        self.assertEqual(caught.exception.value, 201)
        self.assertEqual(len(plain.stuck_rings(complete(8, 1), HELD_201)), 201)
        self.assertTrue(is_stuck_ring(complete(8, 1), HELD_201, stuck_ring(complete(8, 1), HELD_201)))

    def test_at_the_limits(self):
        net = complete(12, 1)
        standing = [(high - low) % 2 for low, high, _ in net[1]]
        with self.assertRaises(TooMany) as caught:
            stuck_rings(net, standing)
        self.assertEqual(caught.exception.value, 201)
        # House 0 goes on to 2 on no key; a ring back from there over the least houses comes first.
        first = stuck_ring(net, standing)
        self.assertTrue(is_stuck_ring(net, standing, first))
        self.assertEqual(stuck_houses(net, standing), list(range(12)))
        self.assertEqual(never_working(net, standing), list(range(12)))
        self.assertIsNone(numbering(net, standing))
        self.assertEqual(stuck_rings(net, [1] * 66), [])
        self.assertEqual(numbering(net, [1] * 66), list(range(11, -1, -1)))
        # Houses in a row of waiting ones lead to one ring at the end alone.
        row = (12, [(low, high, 1) for low, high, _ in net[1] if high == low + 1 or (low, high) == (9, 11)])
        self.assertEqual(stuck_rings(row, [0] * 10 + [1, 0]), [[9, 10, 11]])


class Numberings(unittest.TestCase):
    def test_all_of_them(self):
        cases = some_cases() + chance_cases(13, 40, 5, 1, 0.6) + chance_cases(14, 40, 5, 2, 0.7)
        for net, standing in cases:
            table = plain.key_table(net, standing)
            right = [list(row) for row in itertools.permutations(range(net[0]))
                     if all(row[u] < row[v] for (u, v), keys in table.items() if keys == 0)]
            self.assertEqual(numbering(net, standing), right[0] if right else None)
            self.assertEqual(right == [], plain.stuck_rings(net, standing) != [])
            for row in itertools.permutations(range(net[0])):
                self.assertIs(is_numbering(net, standing, list(row)), list(row) in right)

    def test_other_values(self):
        for value in any_values():
            if repr(value) in ("[0, 1, 2]", "[0, 2, 1]", "[1, 0, 2]", "[1, 2, 0]", "[2, 0, 1]", "[2, 1, 0]"):
                continue
            self.assertFalse(is_numbering((3, []), [], value), value)
        for value in [[False, True, 2], [0, 0, 1], [1, 2, 3], [0, 1], [0, 1, 2, 3], (0, 1, 2), [0, 1, None]]:
            self.assertFalse(is_numbering((3, []), [], value), value)
        self.assertTrue(is_numbering((1, []), [], [0]))
        self.assertEqual(numbering((3, []), []), [0, 1, 2])


class Held(unittest.TestCase):
    def test_who_never_works(self):
        for net, standing in some_cases() + chance_cases(15, 60, 5, 1, 0.6) + chance_cases(16, 20, 6, 1, 0.5):
            worked = [max(column) for column in zip(*plain.lists_by_runs(net, standing, 1))]
            right = [house for house in range(net[0]) if not worked[house]]
            self.assertEqual(never_working(net, standing), right)
            table = plain.key_table(net, standing)
            stuck = plain.stuck_houses(net, standing)
            for house in range(net[0]):
                ways = [way for start in stuck for way in plain.simple_ways(net, start)
                        if way[-1] == house and plain.length(table, way) == 0]
                self.assertEqual(held_by(net, standing, house), min(ways, default=None))
                self.assertEqual(ways != [], house in right)

    def test_without_stuck_rings_all_work_as_often_as_one_likes(self):
        for net, standing in some_cases(60, 12):
            if not plain.stuck_rings(net, standing):
                self.assertEqual(never_working(net, standing), [])
                for house in range(net[0]):
                    run = run_for(net, standing, needed_works(net, standing, house, 30))
                    self.assertTrue(plain.is_run(net, standing, run))
                    self.assertEqual(run.count(house), 30)

    def test_two_stuck_rings(self):
        two = (6, [(0, 1, 1), (0, 2, 1), (1, 2, 1), (3, 4, 1), (3, 5, 1), (4, 5, 1)])
        self.assertEqual(stuck_houses(two, [0, 1, 0, 0, 1, 0]), [0, 1, 2, 3, 4, 5])
        self.assertEqual(held_by(two, [0, 1, 0, 0, 1, 0], 4), [3, 4])
        self.assertEqual(held_by(two, [0, 1, 0, 0, 1, 0], 0), [0])
        self.assertEqual(stuck_houses(two, [0, 1, 0, 1, 1, 1]), [0, 1, 2])
        self.assertIsNone(held_by(two, [0, 1, 0, 1, 1, 1], 4))

    def test_at_the_limits(self):
        net = complete(12, 9)
        standing = [0] * 66
        standing[1] = 9
        # House 0 has no key at its end of the road to 1, 1 none to 2, and 2 none to 0.
        self.assertEqual(stuck_ring(net, standing), [0, 1, 2])
        self.assertEqual(never_working(net, standing), list(range(12)))
        way = held_by(net, standing, 11)
        self.assertEqual((way, way_length(net, standing, way)), (list(range(12)), 0))
        self.assertTrue(is_way(net, way))


class Freed(unittest.TestCase):
    def test_put_ahead(self):
        for net, standing in some_cases(40, 9):
            table = plain.key_table(net, standing)
            pairs = sorted(table)
            for many in range(3):
                right = all_moves(net, standing, many)
                for moves in itertools.product(pairs, repeat=many):
                    moves = list(moves)
                    if moves in right:
                        behind = carried(net, standing, moves)
                        self.assertEqual(put_ahead(net, standing, moves), behind)
                        self.assertTrue(all(plain.key_table(net, behind)[u, v] == table[u, v] + 1 for u, v in moves))
                    else:
                        with self.assertRaises(InvalidWay) as caught:
                            put_ahead(net, standing, moves)
                        self.assertIs(caught.exception.value, moves)

    def test_no_moves(self):
        for value in [None, (), ((0, 1),), [[0, 1]], [(0, 2)], [(0, 1, 1)], [(True, 0)], [(0, 1), (0, 1)],
                      [(0, 1), (1, 0)], [(1, 2), (0, 1)], ["01"], [None], [(0, [1])]]:
            with self.assertRaises(InvalidWay) as caught:
                put_ahead((3, [(0, 1, 2), (1, 2, 2)]), [1, 1], value)
            self.assertIs(caught.exception.value, value)
            self.assertFalse(is_freeing(PATH, [0, 0], value))

    def test_freeing(self):
        cases = [case for case in some_cases() if plain.stuck_rings(*case)]
        cases += some_cases(20, 10) + chance_cases(17, 25, 5, 2, 0.9) + chance_cases(18, 25, 5, 1, 1)
        for net, standing in cases:
            many = fewest_away(net, standing)
            right = [moves for moves in all_moves(net, standing, many)
                     if not plain.stuck_rings(net, carried(net, standing, moves))]
            self.assertEqual(freeing(net, standing), right[0])
            for moves in all_moves(net, standing, many):
                self.assertIs(is_freeing(net, standing, moves), moves in right)
            for fewer in range(many):
                for moves in all_moves(net, standing, fewer):
                    self.assertTrue(plain.stuck_rings(net, carried(net, standing, moves)))
                    self.assertFalse(is_freeing(net, standing, moves))
            waiting = list(plain.key_table(net, standing).values()).count(0)
            self.assertLessEqual(2 * many, waiting)

    def test_no_more_moves_than_needed(self):
        self.assertFalse(is_freeing(RING, [1, 1, 1], [(0, 2)]))
        self.assertTrue(is_freeing(RING, [1, 1, 1], []))
        self.assertEqual(freeing((1, []), []), [])
        self.assertFalse(is_freeing(RING, [0, 1, 0], []))
        for value in any_values():
            right = repr(value) in ("[(0, 1)]", "[(1, 2)]")
            self.assertIs(is_freeing(RING, [0, 1, 0], value), right, value)

    def test_eight_houses(self):
        chance = random.Random(19)
        net = complete(8, 1)
        standing = [chance.randint(0, 1) for _ in range(28)]
        found = freeing(net, standing)
        self.assertEqual(len(found), fewest_away(net, standing))
        self.assertTrue(is_freeing(net, standing, found))
        self.assertEqual(stuck_rings(net, put_ahead(net, standing, found)), [])
        around = (8, [(0, 1, 9), (0, 7, 9)] + [(at, at + 1, 9) for at in range(1, 7)])
        self.assertEqual(freeing(around, [0, 9] + [0] * 6), [(0, 1)])
        self.assertTrue(is_freeing(around, [0, 9] + [0] * 6, [(7, 0)]))


class Free(unittest.TestCase):
    def test_how_many(self):
        for net in some_nets() + [complete(4, 2), (5, complete(5, 1)[1])]:
            right = sum(1 for standing in plain.standings_of(net) if not plain.stuck_rings(net, standing))
            self.assertEqual(how_many_free(net), right)

    def test_the_sum_over_all_lots(self):
        def free(net, houses):
            if not houses:
                return 1
            total = 0
            for lot in plain.subsets(houses)[1:]:
                factor = math.prod(many if (low in lot) != (high in lot) else many - 1 if low in lot else 1
                                   for low, high, many in net[1] if low in houses and high in houses)
                rest = [house for house in houses if house not in lot]
                total += (1 if len(lot) % 2 else -1) * factor * free(net, rest)
            return total
        chance = random.Random(20)
        for _ in range(8):
            net = plain.random_case(chance, 5, 9, 0.7)[0]
            self.assertEqual(how_many_free(net), free(net, list(range(5))))

    def test_at_the_limits(self):
        self.assertEqual(how_many_free(complete(8, 1)), math.factorial(8))
        around = [(0, 1, 9), (0, 7, 9)] + [(at, at + 1, 9) for at in range(1, 7)]
        self.assertEqual(how_many_free((8, around)), 10 ** 8 - 2)
        self.assertEqual(how_many_free((8, around[:1] + around[2:])), 10 ** 7)
        self.assertEqual(how_many_free((8, [])), 1)
        net = complete(8, 9)
        self.assertEqual(how_many_free(complete(3, 9)), 1000 - 2)
        # Each ring is stuck in one of 10 ** size standings of its roads; some standings have several stuck rings.
        by_rings = sum(math.comb(8, size) * math.factorial(size - 1) * 10 ** (28 - size) for size in range(3, 9))
        # 112 of them have three houses, and at most 840 pairs of these a road in common that they go alike.
        by_pairs = 840 * 10 ** 23 + math.comb(112, 2) * 10 ** 22
        self.assertLess(how_many_free(net), 10 ** 28 - 112 * 10 ** 25 + by_pairs)
        self.assertGreater(how_many_free(net), 10 ** 28 - by_rings)
        self.assertEqual(how_many_free(TAIL), sum(not plain.stuck_rings(TAIL, item) for item in all_standings(TAIL)))


if __name__ == "__main__":
    unittest.main()
