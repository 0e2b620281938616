"""[35] to [37]: later standings, classes, the farthest and the nearest ones."""

import itertools
import random
import unittest

from keyroads.classes import classes, farthest, how_many_classes, later_standings, nearest
from keyroads.errors import InvalidHouses, InvalidNet, InvalidStanding, TooMany
from keyroads.nets import all_standings
from tests import plain
from tests.plain import PATH, RING, TAIL, complete, some_cases
from tests.values import any_values

TWO = (6, [(0, 1, 1), (0, 2, 1), (1, 2, 1), (3, 4, 1), (3, 5, 1), (4, 5, 1)])
# Without rings all standings come of one another: 2,000, and 2,002 and 2,016 of them.
JUST = (5, [(0, 1, 9), (1, 2, 9), (2, 3, 4), (3, 4, 3)])
MORE = (5, [(0, 1, 12), (1, 2, 10), (2, 3, 6), (3, 4, 1)])
NINES = (5, [(0, 1, 7), (1, 2, 8), (2, 3, 6), (3, 4, 3)])


def nets():
    """Small nets, with several parts among them."""
    return plain.some_nets() + [TWO, (5, TAIL[1])]


def plain_classes(net):
    """The classes, by going over all runs."""
    free = [standing for standing in plain.standings_of(net) if plain.is_free(net, standing)]
    return sorted({tuple(sorted(plain.later(net, standing))) for standing in free})


def as_lists(found):
    return [[list(standing) for standing in some] for some in found]


class Examples(unittest.TestCase):
    def test_of_the_document(self):
        self.assertEqual([later_standings(RING, [1, 1, 1]), how_many_classes(RING), classes((2, [(0, 1, 2)])),
                          later_standings(TAIL, [0, 1, 0, 1])],
                         [[[0, 0, 1], [1, 0, 0], [1, 1, 1]], 2, [[[0], [1], [2]]], [[0, 1, 0, 0], [0, 1, 0, 1]]])
        self.assertEqual([farthest(PATH, [1, 1]), nearest(PATH, [0, 0], [(0, 1), (1, 2)])],
                         [(3, [0, 0]), (3, [1, 1])])


class Later(unittest.TestCase):
    def test_over_all_runs(self):
        for net in nets():
            for standing in plain.standings_of(net):
                right = sorted(list(there) for there in plain.later(net, standing))
                self.assertEqual(later_standings(net, standing), right)

    def test_come_of_one_another_without_stuck_rings(self):
        for net, standing in some_cases(100, 91):
            for other in later_standings(net, standing):
                if plain.is_free(net, standing):
                    self.assertEqual(later_standings(net, other), later_standings(net, standing))
                elif standing in later_standings(net, other):
                    stuck = plain.stuck_houses(net, standing)
                    for (low, high, _), one, two in zip(net[1], standing, other):
                        part = [part for part in plain.joined_parts(net) if low in part][0]
                        self.assertTrue(one == two or not set(part) & set(stuck))

    def test_nothing_else(self):
        self.assertEqual(later_standings((1, []), []), [[]])
        self.assertEqual(later_standings((3, []), []), [[]])
        self.assertEqual(later_standings(RING, [0, 1, 0]), [[0, 1, 0]])

    def test_both_sides_of_the_bound(self):
        self.assertEqual(later_standings(JUST, [0, 0, 0, 0]), all_standings(JUST))
        self.assertEqual(len(later_standings(JUST, [9, 3, 2, 0])), 2000)
        for net, standing in [(MORE, [0, 0, 0, 0]), (NINES, [7, 8, 0, 1]), (complete(12, 9), [5] * 66)]:
            for call in (later_standings, farthest, lambda net, standing: nearest(net, standing, [])):
                with self.assertRaises(TooMany) as caught:
                    call(net, standing)
                self.assertEqual(caught.exception.value, 2001)

    def test_few_of_very_many(self):
        """What counts are the standings that come, and not all that there are."""
        net = complete(12, 1)
        self.assertEqual(len(later_standings(net, [1] * 66)), 12)
        self.assertEqual(farthest(net, [1] * 66)[0], 11)


class Classes(unittest.TestCase):
    def test_over_all_runs(self):
        for net in nets() + [(4, [(0, 1, 2), (0, 2, 1), (1, 2, 1), (1, 3, 2), (2, 3, 1)])]:
            right = as_lists(plain_classes(net))
            self.assertEqual(classes(net), right)
            self.assertEqual(how_many_classes(net), len(right))

    def test_one_standing_for_each_house_alone(self):
        for net in nets():
            if plain.is_joined(net):
                for some in classes(net):
                    alone = [[house for house in range(net[0]) if plain.can_work(net, standing, house)]
                             for standing in some]
                    self.assertEqual([alone.count([house]) for house in range(net[0])], [1] * net[0])

    def test_no_roads(self):
        for houses in (1, 2, 12):
            self.assertEqual(classes((houses, [])), [[[]]])
            self.assertEqual(how_many_classes((houses, [])), 1)

    def test_both_sides_of_the_bound(self):
        self.assertEqual(classes(JUST), [all_standings(JUST)])
        self.assertEqual(how_many_classes(JUST), 1)
        for net, many in [(MORE, 2002), (NINES, 2016), (complete(12, 9), 10 ** 66)]:
            for call in (classes, how_many_classes):
                with self.assertRaises(TooMany) as caught:
                    call(net)
                self.assertEqual(caught.exception.value, many)

    def test_at_the_limits(self):
        net = (12, [(low, 11, 1) for low in range(8)] + [(8, 11, 6)])
        self.assertEqual(how_many_classes(net), 1)
        self.assertEqual(sum(len(some) for some in classes(complete(5, 1))), 120)
        # Turned the one way or the other, each ring of four has three classes.
        squares = [(0, 1, 1), (0, 3, 1), (1, 2, 1), (2, 3, 1), (4, 5, 1), (4, 7, 1), (5, 6, 1), (6, 7, 1)]
        self.assertEqual(how_many_classes((8, squares)), 9)


class Far(unittest.TestCase):
    def test_farthest_over_all_runs(self):
        for net in nets():
            for standing in plain.standings_of(net):
                later = plain.later(net, standing)
                most = max(sum(works) for works in later.values())
                first = min(there for there, works in later.items() if sum(works) == most)
                self.assertEqual(farthest(net, standing), (most, list(first)))

    def test_nearest_over_all_runs(self):
        chance = random.Random(92)
        for net, standing in some_cases(150, 93):
            later = plain.later(net, standing)
            pairs = sorted(plain.key_table(net, standing))
            lists = plain.subsets(pairs) if len(pairs) < 5 else [chance.sample(pairs, size) for size in (1, 2, 3, 4)]
            for wanted in lists:
                chance.shuffle(wanted)
                right = [(sum(works), list(there)) for there, works in later.items()
                         if all(plain.key_table(net, there)[pair] > 0 for pair in wanted)]
                self.assertEqual(nearest(net, standing, wanted), min(right, default=None))

    def test_edges(self):
        self.assertEqual(farthest((1, []), []), (0, []))
        self.assertEqual(farthest(RING, [0, 1, 0]), (0, [0, 1, 0]))
        self.assertEqual(nearest((2, []), [], []), (0, []))
        self.assertEqual(nearest(PATH, [1, 1], []), (0, [1, 1]))
        self.assertIsNone(nearest((2, [(0, 1, 1)]), [1], [(1, 0), (0, 1)]))
        self.assertIsNone(nearest(RING, [0, 1, 0], [(0, 1)]))
        self.assertEqual(nearest((2, [(0, 1, 2)]), [0], [(1, 0), (0, 1)]), (1, [1]))
        self.assertEqual(nearest(RING, [1, 1, 1], [(2, 1), (0, 1)]), (1, [1, 0, 0]))

    def test_the_most_works_of_the_bound(self):
        self.assertEqual(farthest(JUST, [0, 0, 0, 0]), (9 * 1 + 9 * 2 + 4 * 3 + 3 * 4, [9, 9, 4, 3]))
        self.assertEqual(nearest(JUST, [0, 0, 0, 0], [(3, 4)]), (4, [0, 0, 0, 1]))

    def test_what_is_wanted(self):
        for value in [None, (), ((0, 1),), [[0, 1]], [(0, 1), (0, 1)], [(0, 3)], [(0, 0)], [(0, True)], [(0, 1, 1)],
                      ["01"], {(0, 1): 1}, [(0, 2)], [(3, 0)], [(-1, 0)], [(0,)], [None], [(0, 1), [1, 0]]]:
            with self.assertRaises(InvalidHouses) as caught:
                nearest(PATH, [1, 0], value)
            self.assertIs(caught.exception.value, value)
        for wanted in itertools.permutations([(0, 1), (1, 2), (2, 1)]):
            self.assertEqual(nearest(PATH, [1, 1], list(wanted)), (0, [1, 1]))

    def test_errors_in_their_order(self):
        wrong = [(0, 0)]
        for arguments, error, at in [((None, None, None), InvalidNet, 0), ((PATH, [1], wrong), InvalidStanding, 1),
                                     ((MORE, [0, 0, 0, 0], wrong), InvalidHouses, 2)]:
            with self.assertRaises(error) as caught:
                nearest(*arguments)
            self.assertIs(caught.exception.value, arguments[at])
        for value in any_values():
            if type(value) is not list:
                with self.assertRaises(InvalidHouses):
                    nearest((2, []), [], value)


if __name__ == "__main__":
    unittest.main()
