"""[26], [27]: leads, and the keys that ever lie on a road."""

import itertools
import random
import unittest

from keyroads.errors import InvalidHouse
from keyroads.leads import fewest_keys, is_lead_run, lead, lead_run, leads, most_keys
from keyroads.works import is_run
from tests import plain
from tests.plain import PATH, RING, TAIL, complete, some_cases
from tests.values import any_values


def plain_lead(net, standing, one, other):
    """The lesser one of the least lengths, over all ways."""
    if one == other:
        return 0
    bounds = [plain.least_length(net, standing, [one], other),
              plain.least_length(net, standing, plain.stuck_houses(net, standing), other)]
    return min([bound for bound in bounds if bound is not None], default=None)


class Examples(unittest.TestCase):
    def test_leads(self):
        self.assertEqual([lead(PATH, [1, 0], 0, 2), lead(PATH, [1, 0], 2, 0), leads(PATH, [1, 0]),
                          lead((2, []), [], 0, 1), leads(RING, [1, 1, 1])],
                         [1, 2, [[0, 1, 1], [0, 0, 0], [2, 2, 0]], None, [[0, 1, 1], [0, 0, 1], [0, 0, 0]]])
        self.assertEqual([is_lead_run(PATH, [1, 0], 2, 0, [1, 0, 1, 0]), is_lead_run(PATH, [1, 0], 2, 0, [0, 1]),
                          lead_run((2, []), [], 0, 1), leads(RING, [1, 0, 1])],
                         [True, False, None, [[0, 0, 0], [0, 0, 0], [0, 0, 0]]])
        self.assertEqual([fewest_keys(PATH, [1, 0], 1, 2), most_keys(PATH, [1, 0], 1, 2),
                          most_keys(RING, [1, 0, 1], 0, 1), fewest_keys(RING, [1, 1, 1], 2, 1)],
                         [0, 2, 1, 0])


class Leads(unittest.TestCase):
    def test_over_all_runs(self):
        """All lists of works that runs do are gone through, up to a bound that no lead passes."""
        for net, standing in some_cases(90, 51):
            most = 5 if net[0] < 4 else 3
            lists = plain.lists_by_runs(net, standing, most)
            table = leads(net, standing)
            for one, other in itertools.product(range(net[0]), repeat=2):
                told = lead(net, standing, one, other)
                self.assertEqual(told, plain_lead(net, standing, one, other))
                self.assertEqual(table[one][other], told)
                ahead = max(works[other] - works[one] for works in lists)
                if told is None or told >= most:
                    self.assertEqual(ahead, most)
                else:
                    self.assertEqual(ahead, told)

    def test_random_nets(self):
        chance = random.Random(52)
        for _ in range(60):
            net, standing = plain.random_case(chance, 5, 3, 0.5)
            table = leads(net, standing)
            self.assertEqual(table, [[plain_lead(net, standing, one, other) for other in range(5)]
                                     for one in range(5)])
            for one, two, three in itertools.product(range(5), repeat=3):
                if table[one][two] is not None and table[two][three] is not None:
                    self.assertLessEqual(table[one][three], table[one][two] + table[two][three])

    def judge_lead_run(self, net, standing, one, other):
        told = lead(net, standing, one, other)
        run = lead_run(net, standing, one, other)
        if told is None:
            self.assertIsNone(run)
        else:
            self.assertTrue(plain.is_run(net, standing, run))
            self.assertEqual(run.count(other) - run.count(one), told)
            self.assertTrue(is_lead_run(net, standing, one, other, run))

    def test_lead_runs(self):
        chance = random.Random(53)
        cases = some_cases(150, 54) + [plain.random_case(chance, 5, 4, 0.4) for _ in range(30)]
        cases += [(TAIL, [0, 1, 0, 1]), ((5, TAIL[1]), [0, 1, 0, 1]), ((6, TAIL[1] + [(4, 5, 3)]), [0, 1, 0, 1, 2])]
        for net, standing in cases:
            for one, other in itertools.product(range(net[0]), repeat=2):
                self.judge_lead_run(net, standing, one, other)

    def test_what_is_a_lead_run(self):
        for net, standing in some_cases(50, 55):
            for one, other in itertools.product(range(net[0]), repeat=2):
                told = plain_lead(net, standing, one, other)
                for many in range(4):
                    for run in itertools.product(range(net[0]), repeat=many):
                        right = plain.is_run(net, standing, run) and run.count(other) - run.count(one) == told
                        self.assertIs(is_lead_run(net, standing, one, other, list(run)), right)

    def test_other_values_are_no_lead_runs(self):
        for value in any_values():
            self.assertIs(is_lead_run((2, [(0, 1, 1)]), [1], 0, 1, value), repr(value) in ("[1]", "[1, 0, 1]"), value)
            self.assertFalse(is_lead_run((2, []), [], 0, 1, value))
        self.assertFalse(is_lead_run((2, [(0, 1, 1)]), [1], 0, 1, [True]))

    def test_stuck_rings_bound_leads_over_all(self):
        self.assertEqual(lead((5, TAIL[1]), [0, 1, 0, 1], 4, 3), 1)
        self.assertIsNone(lead((5, TAIL[1]), [0, 1, 0, 1], 3, 4))
        self.assertEqual(lead(TAIL, [0, 1, 0, 1], 3, 0), 0)
        self.assertEqual(lead(TAIL, [0, 1, 0, 1], 3, 3), 0)

    def test_at_the_limits(self):
        row = (12, [(at, at + 1, 9) for at in range(11)])
        run = lead_run(row, [9] * 11, 0, 11)
        self.assertTrue(is_run(row, [9] * 11, run))
        self.assertEqual((run.count(0), run.count(11), lead(row, [9] * 11, 0, 11)), (0, 99, 99))
        net = complete(12, 9)
        standing = [(7 * at) % 10 for at in range(66)]
        table = leads(net, standing)
        for one, other in itertools.permutations(range(12), 2):
            run = lead_run(net, standing, one, other)
            self.assertTrue(is_lead_run(net, standing, one, other, run))
            self.assertEqual(run.count(other) - run.count(one), table[one][other])


class Keys(unittest.TestCase):
    def test_over_all_runs(self):
        for net, standing in some_cases(90, 56):
            lists = plain.lists_by_runs(net, standing, 5 if net[0] < 4 else 4)
            for low, high, many in net[1]:
                there = {plain.key_table(net, behind)[low, high] for behind in lists.values()}
                fewest = fewest_keys(net, standing, low, high)
                most = most_keys(net, standing, low, high)
                self.assertEqual(sorted(there), list(range(fewest, most + 1)))
                self.assertEqual(fewest_keys(net, standing, high, low), many - most)
                self.assertEqual(most_keys(net, standing, high, low), many - fewest)

    def test_errors(self):
        for call in (fewest_keys, most_keys):
            for one, other, wrong in [(3, 3, 3), (0, 2, 2), (0, 0, 0), (0, 3, 3), (True, 1, True), (0, True, True),
                                      (None, None, None), (1, [0], [0])]:
                with self.assertRaises(InvalidHouse) as caught:
                    call(PATH, [1, 0], one, other)
                self.assertEqual(repr(caught.exception.value), repr(wrong))


if __name__ == "__main__":
    unittest.main()
