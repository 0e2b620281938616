"""[28] to [30]: needed directions, and windows."""

import itertools
import random
import unittest

from keyroads.errors import InvalidHouse, InvalidStanding, InvalidWay, InvalidWorks
from keyroads.needed import are_needless, breaking, can_be, is_breaking, least_works, needed, window
from tests import plain
from tests.plain import PATH, RING, TAIL, complete, some_cases
from tests.values import any_values


def free_cases(many, seed, houses=9):
    """Nets and standings without stuck rings."""
    cases = [case for case in some_cases() if case[0][0] <= houses and not plain.stuck_rings(*case)]
    return random.Random(seed).sample(cases, min(many, len(cases)))


def broken(table, pairs, works):
    """Whether a list of works breaks the bound of any of these directions."""
    return any(works[v] > works[u] + table[u, v] for u, v in pairs)


def breaks_some(table, some, works):
    """Whether it breaks bounds of some directions, and of no others."""
    others = [pair for pair in table if pair not in some]
    return broken(table, some, works) and not broken(table, others, works)


class Examples(unittest.TestCase):
    def test_needed(self):
        self.assertEqual([needed(PATH, [1, 0]), needed(RING, [1, 1, 1]),
                          are_needless(RING, [1, 1, 1], [(0, 1), (1, 2), (2, 0)]),
                          are_needless(RING, [1, 1, 1], [(0, 2)])],
                         [[(0, 1), (1, 0), (1, 2), (2, 1)], [(0, 2), (1, 0), (2, 1)], True, False])
        self.assertEqual([is_breaking(RING, [1, 1, 1], [(0, 2)], [0, 1, 2]),
                          is_breaking(RING, [1, 1, 1], [(0, 2)], [0, 1, 1]), breaking(RING, [1, 1, 1], [(0, 1)])],
                         [True, False, None])

    def test_windows(self):
        ring = [1, 1, 1]
        self.assertEqual([can_be(RING, ring, [(0, 0), (2, 1)]), window(RING, ring, 1, [(0, 0), (2, 1)]),
                          window(RING, ring, 2, [(0, 5)]), window(RING, ring, 1, [(0, 0), (2, 2)])],
                         [True, (0, 1), (5, 6), None])
        self.assertEqual([window((2, []), [], 1, [(0, 3)]), least_works(RING, ring, [(2, 2)]),
                          least_works(PATH, [1, 0], [])],
                         [(0, None), [1, 1, 2], [0, 0, 0]])


class Needed(unittest.TestCase):
    def test_over_all_lists_up_to_a_bound(self):
        for net, standing in free_cases(40, 61, 3):
            table = plain.key_table(net, standing)
            # A list that breaks just these bounds needs no more than the keys on three roads and one.
            lists = list(itertools.product(range(6), repeat=net[0]))
            for some in plain.subsets(sorted(table)):
                right = any(breaks_some(table, some, works) for works in lists)
                self.assertIs(are_needless(net, standing, some), not right)
                found = breaking(net, standing, some)
                self.assertEqual(found is not None, right)
                if found is not None:
                    self.assertTrue(breaks_some(table, some, found))
                    self.assertTrue(is_breaking(net, standing, some, found))

    def test_what_is_breaking(self):
        for net, standing in free_cases(15, 62, 3) + [(RING, [1, 1, 1])]:
            table = plain.key_table(net, standing)
            for some in plain.subsets(sorted(table)):
                for works in itertools.product(range(4), repeat=net[0]):
                    self.assertIs(is_breaking(net, standing, some, list(works)), breaks_some(table, some, works))
        for value in any_values() + [[0, True, 2], [False, 1, 2], (0, 1, 2), [0, 1], [0, 1, 2, 3], [0, 1, -2]]:
            right = repr(value) in ("[0, 1, 2]", "[1, 2, 3]")
            self.assertIs(is_breaking(RING, [1, 1, 1], [(0, 2)], value), right, value)

    def test_the_only_way_of_this_length(self):
        chance = random.Random(63)
        cases = free_cases(60, 64)
        while len(cases) < 100:
            net, standing = plain.random_case(chance, 5, 2, 0.7)
            if not plain.stuck_rings(net, standing):
                cases.append((net, standing))
        for net, standing in cases:
            table = plain.key_table(net, standing)
            right = [(u, v) for u, v in sorted(table)
                     if [way for way in plain.simple_ways(net, u)
                         if way[-1] == v and plain.length(table, way) <= table[u, v]] == [[u, v]]]
            self.assertEqual(needed(net, standing), right)
            pairs = sorted(table)
            for _ in range(20):
                some = [pair for pair in pairs if chance.random() < 0.4]
                needless = not [pair for pair in some if pair in right]
                self.assertIs(are_needless(net, standing, some), needless)
                found = breaking(net, standing, some)
                self.assertEqual(found is None, needless)
                if found is not None:
                    self.assertTrue(breaks_some(table, some, found))
            others = [pair for pair in pairs if pair not in right]
            self.assertTrue(are_needless(net, standing, others))

    def test_empty_lists(self):
        self.assertTrue(are_needless(RING, [1, 1, 1], []))
        self.assertIsNone(breaking(RING, [1, 1, 1], []))
        self.assertFalse(is_breaking(RING, [1, 1, 1], [], [0, 0, 9]))
        self.assertEqual(needed((2, []), []), [])

    def test_stuck_rings_are_refused(self):
        for standing in ([0, 1, 0], [1, 0, 1]):
            for call in (lambda: needed(RING, standing), lambda: are_needless(RING, standing, None),
                         lambda: breaking(RING, standing, [(0, 1)]),
                         lambda: is_breaking(RING, standing, [(9, 9)], [0, 1, 2])):
                with self.assertRaises(InvalidStanding) as caught:
                    call()
                self.assertIs(caught.exception.value, standing)
        self.assertTrue(can_be(RING, [0, 1, 0], [(0, 0)]))

    def test_some_directions(self):
        for value in [None, (), ((0, 1),), [[0, 1]], [(0, 1), (0, 1)], [(1, 0), (0, 1)], [(0, 3)], [(0, 0)],
                      [(0, True)], [(0, 1, 1)], ["01"], {(0, 1): 1}]:
            for call in (are_needless, breaking, lambda net, standing, some: is_breaking(net, standing, some, None)):
                with self.assertRaises(InvalidWay) as caught:
                    call(RING, [1, 1, 1], value)
                self.assertIs(caught.exception.value, value)

    def test_at_the_limits(self):
        net = complete(12, 9)
        standing = [(3 * at) % 8 + 1 for at in range(66)]
        found = needed(net, standing)
        table = plain.key_table(net, standing)
        others = [pair for pair in sorted(table) if pair not in found]
        self.assertTrue(are_needless(net, standing, others))
        self.assertIsNone(breaking(net, standing, others))
        for pair in found:
            self.assertFalse(are_needless(net, standing, [pair]))
            self.assertTrue(is_breaking(net, standing, [pair], breaking(net, standing, [pair])))
        self.assertTrue(is_breaking(net, standing, sorted(table), breaking(net, standing, sorted(table))))


class Windows(unittest.TestCase):
    def judge_known(self, net, standing, lists, most, known):
        """Held against all lists of works up to a bound, none of which is left out below it."""
        those = [works for works in lists if all(works[house] == number for house, number in known)]
        self.assertIs(can_be(net, standing, known), bool(those))
        right = [min(column) for column in zip(*those)] if those else None
        self.assertEqual(least_works(net, standing, known), right)
        for house in range(net[0]):
            told = window(net, standing, house, known)
            if not those:
                self.assertIsNone(told)
                continue
            numbers = sorted({works[house] for works in those})
            greatest = most if told[1] is None else min(told[1], most)
            self.assertEqual(numbers, list(range(told[0], greatest + 1)))
            if told[1] is not None and told[1] > most:
                self.assertFalse(plain.stuck_rings(net, standing))

    def test_over_all_lists_up_to_a_bound(self):
        for net, standing in some_cases(70, 65) + [(TAIL, [0, 1, 0, 1])]:
            most = 6 if net[0] < 4 else 4
            lists = plain.lists_by_runs(net, standing, most)
            for houses in plain.subsets(range(net[0])):
                if len(houses) <= 3:
                    for numbers in itertools.product(range(4 if net[0] < 4 else 3), repeat=len(houses)):
                        self.judge_known(net, standing, lists, most, list(zip(houses, numbers)))

    def test_no_greatest_number(self):
        self.assertEqual(window((2, []), [], 1, []), (0, None))
        self.assertEqual(window(PATH, [1, 0], 1, []), (0, None))
        self.assertEqual(window(PATH, [1, 0], 1, [(1, 7)]), (7, 7))
        self.assertEqual(window(PATH, [1, 0], 0, [(2, 10 ** 29)]), (10 ** 29 - 1, 10 ** 29 + 2))
        self.assertEqual(window((5, TAIL[1]), [0, 1, 0, 1], 3, [(4, 9)]), (0, 1))
        self.assertEqual(window((5, TAIL[1]), [0, 1, 0, 1], 4, [(3, 1)]), (0, None))
        self.assertIsNone(window((5, TAIL[1]), [0, 1, 0, 1], 4, [(3, 2)]))
        self.assertFalse(can_be(RING, [0, 1, 0], [(1, 1)]))
        self.assertIsNone(least_works(RING, [0, 1, 0], [(1, 1)]))
        self.assertEqual(least_works(RING, [0, 1, 0], [(1, 0)]), [0, 0, 0])
        self.assertIsNone(least_works(PATH, [1, 0], [(0, 10 ** 29), (2, 0)]))

    def test_lesser_and_greater_works_of_two_lists(self):
        for net, standing in some_cases(20, 66):
            lists = plain.lists_by_runs(net, standing, 3)
            chance = random.Random(67)
            for _ in range(30):
                one, other = chance.choice(list(lists)), chance.choice(list(lists))
                known = [(house, one[house]) for house in range(net[0]) if one[house] == other[house]]
                for pick in (min, max):
                    works = [pick(pair) for pair in zip(one, other)]
                    self.assertTrue(can_be(net, standing, list(enumerate(works))))
                    self.assertTrue(all(works[house] == number for house, number in known))

    def test_what_is_known(self):
        for value in [None, (), ((0, 0),), [[0, 0]], [(0, 0), (0, 0)], [(1, 0), (0, 0)], [(3, 0)], [(0, -1)],
                      [(True, 0)], [(0, True)], [(0, 0, 0)], [(0,)], ["00"], [(0, None)], {0: 0}, [(-1, 0)]]:
            for call in (can_be, least_works, lambda net, standing, known: window(net, standing, 0, known)):
                with self.assertRaises(InvalidWorks) as caught:
                    call(PATH, [1, 0], value)
                self.assertIs(caught.exception.value, value)
            with self.assertRaises(InvalidHouse):
                window(PATH, [1, 0], 3, value)

    def test_at_the_limits(self):
        net = complete(12, 9)
        standing = [(3 * at) % 8 + 1 for at in range(66)]
        known = [(house, 1000) for house in range(0, 12, 2)]
        self.assertTrue(can_be(net, standing, known))
        least = least_works(net, standing, known)
        for house in range(12):
            told = window(net, standing, house, known)
            self.assertEqual(told[0], least[house])
            for number in (told[0], told[1]):
                self.assertTrue(can_be(net, standing, sorted({(house, number), *known})))
            for number in (told[0] - 1, told[1] + 1):
                if house % 2:
                    self.assertFalse(can_be(net, standing, sorted({(house, number), *known})))


if __name__ == "__main__":
    unittest.main()
