"""[48] to [51]: rates, and timetables that keep to a period."""

import itertools
import random
import unittest
from fractions import Fraction

from keyroads.beats import is_timetable, starts, turning
from keyroads.errors import InvalidHouse, InvalidNumber, InvalidTimes, TooMany
from keyroads.rates import are_numbers, is_slowest, least_numbers, rates, slowest, table_of_numbers
from tests import plain
from tests.plain import PATH, RING, TAIL, complete
from tests.test_beats import timed_cases
from tests.values import any_values

HALVES = [Fraction(above, below) for above in range(1, 8) for below in (1, 2, 3)]


def told(fraction):
    """A fraction of Python's own as a tuple."""
    return (fraction.numerator, fraction.denominator)


def plain_rates(net, standing, times):
    """The least one of all houses, roads and rings of a part, for each house."""
    table = plain.ratio_table(net, standing, times)
    return [min(ratio for some, ratio in table.items() if some[0] in plain.part_of(net, house))
            for house in range(net[0])]


def plain_numbers(net, standing, times, periods):
    """For periods, the least starting numbers by the longest ways without a house twice, None if a ring is too slow."""
    least = min(plain_rates(net, standing, times))
    table = plain.key_table(net, standing)
    ways = [(way[-1], sum(times[house] for house in way[:-1]), plain.length(table, way))
            for start in range(net[0]) for way in plain.simple_ways(net, start)]
    tables = {}
    for period in periods:
        tables[period] = None if period * least < 1 else [Fraction(0)] * net[0]
        if tables[period]:
            for house, lasts, keys in ways:
                tables[period][house] = max(tables[period][house], lasts - period * keys)
    return tables


class Examples(unittest.TestCase):
    def test_of_the_document(self):
        ones = [1, 1, 1]
        self.assertEqual([rates(PATH, [1, 0], ones), rates(RING, ones, [2, 1, 3]), rates(RING, [1, 0, 1], ones),
                          rates((2, []), [], [2, 3])],
                         [[(1, 2), (1, 2), (1, 2)], [(1, 6), (1, 6), (1, 6)], [(0, 1), (0, 1), (0, 1)],
                          [(1, 2), (1, 3)]])
        self.assertEqual([slowest(PATH, [1, 0], ones, 2), slowest(RING, ones, [2, 1, 3], 0),
                          is_slowest(RING, ones, [2, 1, 3], 0, [0, 1]), slowest((2, []), [], [2, 3], 1)],
                         [[0, 1], [0, 2, 1], False, [1]])
        self.assertEqual([least_numbers(PATH, [1, 0], ones, (2, 1)), least_numbers(PATH, [1, 0], ones, (3, 2)),
                          are_numbers(PATH, [1, 0], ones, (2, 1), [(1, 1), (0, 1), (2, 1)])],
                         [[(1, 1), (0, 1), (1, 1)], None, True])
        self.assertEqual(table_of_numbers(PATH, [1, 0], ones, (5, 2), 8),
                         [[1], [0, 2], [], [1], [0, 2], [1], [0, 2], []])


class Rates(unittest.TestCase):
    def test_over_all_houses_roads_and_rings(self):
        for net, standing, times in timed_cases(250, 141) + timed_cases(150, 142, 9):
            self.assertEqual(rates(net, standing, times), [told(rate) for rate in plain_rates(net, standing, times)])

    def test_over_beats(self):
        judged = 0
        for net, standing, times in timed_cases(250, 143):
            try:
                cycle = turning(net, standing, times)[1]
            except TooMany:
                continue
            works = [sum(house in starting for starting in cycle) for house in range(net[0])]
            self.assertEqual(rates(net, standing, times), [told(Fraction(many, len(cycle))) for many in works])
            judged += 1
        self.assertGreater(judged, 300)

    def test_no_timetable_goes_faster_for_ever(self):
        """A house is never ahead of its rate by more than all keys and its part's rings let it be."""
        for net, standing, times in timed_cases(60, 144):
            found = starts(net, standing, times, 400)
            for house, (above, below) in enumerate(rates(net, standing, times)):
                many = sum(house in starting for starting in found)
                self.assertLessEqual(many, 400 * above // below + 1 + sum(road[2] for road in net[1]))
                self.assertGreaterEqual(many, 400 * above // below - 1 - sum(road[2] for road in net[1]) - sum(times))

    def test_no_rate_exactly_with_a_stuck_ring(self):
        for net, standing, times in timed_cases(200, 145):
            stuck = plain.stuck_houses(net, standing)
            for house, rate in enumerate(rates(net, standing, times)):
                self.assertEqual(rate == (0, 1), bool(set(plain.part_of(net, house)) & set(stuck)))

    def test_without_a_bound_on_the_beats(self):
        self.assertEqual(rates((4, []), [], [8, 9, 5, 7]), [(1, 8), (1, 9), (1, 5), (1, 7)])
        self.assertEqual(rates((1, []), [], [1]), [(1, 1)])
        self.assertEqual(rates((5, TAIL[1]), [0, 1, 0, 1], [1, 2, 3, 4, 5]), [(0, 1)] * 4 + [(1, 5)])

    def test_at_the_limits(self):
        chance = random.Random(146)
        row = (12, [(at, at + 1, 9) for at in range(11)])
        self.assertEqual(rates(row, [0] * 11, [9] * 12), [(1, 9)] * 12)
        circle = (12, [(0, 1, 9), (0, 11, 9)] + [(at, at + 1, 9) for at in range(1, 11)])
        self.assertEqual(rates(circle, [1, 9] + [0] * 10, list(range(1, 10)) + [9, 8, 7]), [(1, 69)] * 12)
        self.assertEqual(slowest(circle, [1, 9] + [0] * 10, list(range(1, 10)) + [9, 8, 7], 5), list(range(12)))
        for _ in range(10):
            net = complete(12, 9)
            standing = [chance.randint(1, 8) for _ in range(66)]
            times = [chance.randint(1, 9) for _ in range(12)]
            rate = rates(net, standing, times)
            some = slowest(net, standing, times, 11)
            self.assertTrue(is_slowest(net, standing, times, 0, some))
            table = plain.key_table(net, standing)
            keys = 1 if len(some) == 1 else plain.ring_length(table, some)
            self.assertEqual(rate, [told(Fraction(keys, sum(times[house] for house in some)))] * 12)
            found = starts(net, standing, times, 500)
            many = sum(7 in starting for starting in found)
            self.assertLess(abs(many - 500 * rate[7][0] // rate[7][1]), 60)


class Slowest(unittest.TestCase):
    def test_over_all_houses_roads_and_rings(self):
        for net, standing, times in timed_cases(250, 147) + timed_cases(100, 148, 9):
            table = plain.ratio_table(net, standing, times)
            for house in range(net[0]):
                part = plain.part_of(net, house)
                least = min(ratio for some, ratio in table.items() if some[0] in part)
                right = [list(some) for some, ratio in table.items() if ratio == least and some[0] in part]
                self.assertEqual(slowest(net, standing, times, house), min(right))
                for some in table:
                    self.assertIs(is_slowest(net, standing, times, house, list(some)), list(some) in right)

    def test_several_at_once(self):
        for net, standing in [(complete(5, 1), [1] * 10), (complete(4, 2), [0, 1, 2, 1, 1, 0]),
                              ((4, [(0, 1, 2), (0, 2, 2), (1, 3, 2), (2, 3, 2)]), [1, 1, 1, 1])]:
            for times in itertools.product((1, 2), repeat=net[0]):
                table = plain.ratio_table(net, standing, list(times))
                right = min(list(some) for some, ratio in table.items() if ratio == min(table.values()))
                self.assertEqual(slowest(net, standing, list(times), 0), right)

    def test_with_a_stuck_ring(self):
        self.assertEqual(slowest(RING, [0, 1, 0], [9, 9, 9], 2), [0, 1, 2])
        self.assertEqual(slowest(RING, [1, 0, 1], [1, 1, 1], 0), [0, 2, 1])
        self.assertEqual(slowest(TAIL, [0, 1, 0, 1], [1, 1, 1, 9], 3), [0, 1, 2])
        self.assertFalse(is_slowest(TAIL, [0, 1, 0, 1], [1, 1, 1, 9], 3, [3]))

    def test_other_values_are_not_slowest(self):
        for value in any_values() + [[0, 1, 2, 0], [True, 2], [0, True], [1, 0], [0, 2], (0, 1), ([0, 1],), [[0, 1]]]:
            self.assertIs(is_slowest(PATH, [1, 0], [1, 1, 1], 2, value), repr(value) == "[0, 1]", value)
            self.assertIs(is_slowest((2, []), [], [2, 3], 1, value), repr(value) == "[1]", value)
        self.assertFalse(is_slowest(RING, [1, 1, 1], [2, 1, 3], 0, [2, 1, 0]))
        self.assertFalse(is_slowest(RING, [1, 1, 1], [2, 1, 3], 0, [0, 2, True]))

    def test_at_its_limit(self):
        net = complete(8, 9)
        self.assertEqual(slowest(net, [0] * 28, [1] * 8, 3), [0])
        around = [8 if road[:2] == (0, 7) else 0 for road in net[1]]
        self.assertEqual(slowest(net, around, [1] * 8, 3), [0, 1, 2, 3, 4, 5, 6, 7])
        self.assertEqual(rates(net, around, [9] * 8), [(1, 72)] * 8)
        back = [1 if road[:2] == (0, 7) else 9 for road in net[1]]
        self.assertEqual(slowest(net, back, [1] * 8, 3), [0, 7, 6, 5, 4, 3, 2, 1])

    def test_of_seven_houses_over_all_rings(self):
        chance = random.Random(155)
        net = complete(7, 2)
        standing, times = [chance.randint(0, 2) for _ in range(21)], [chance.randint(1, 9) for _ in range(7)]
        table = plain.ratio_table(net, standing, times)
        self.assertEqual(slowest(net, standing, times, 4),
                         min(list(some) for some, ratio in table.items() if ratio == min(table.values())))


class Numbers(unittest.TestCase):
    def test_least_ones_over_all_ways(self):
        for net, standing, times in timed_cases(120, 149):
            for period, right in plain_numbers(net, standing, times, HALVES).items():
                right = right and [told(number) for number in right]
                found = least_numbers(net, standing, times, told(period))
                self.assertEqual(found, right)
                if found is not None:
                    self.assertTrue(are_numbers(net, standing, times, told(period), found))

    def test_just_from_the_rate_on(self):
        for net, standing, times in timed_cases(120, 150):
            least = min(plain_rates(net, standing, times))
            if least == 0:
                self.assertIsNone(least_numbers(net, standing, times, (1000, 1)))
            else:
                self.assertIsNotNone(least_numbers(net, standing, times, told(1 / least)))
                self.assertIsNone(least_numbers(net, standing, times, told(1 / least - Fraction(1, 1000))))

    def test_what_are_numbers(self):
        chance = random.Random(151)
        for net, standing, times in timed_cases(150, 152):
            table = plain.key_table(net, standing)
            for period, least in plain_numbers(net, standing, times, HALVES).items():
                least = least or [Fraction(0)] * net[0]
                numbers = [number + chance.choice((0, 0, 0, Fraction(1, 3), 1, -1)) for number in least]
                right = (all(number >= 0 for number in numbers) and all(period >= time for time in times)
                         and all(numbers[v] >= numbers[u] + times[u] - period * keys for (u, v), keys in table.items()))
                given = [told(number) for number in numbers]
                self.assertIs(are_numbers(net, standing, times, told(period), given), right)

    def test_periods_shorter_than_a_time_have_none(self):
        self.assertIsNone(least_numbers((2, []), [], [2, 3], (5, 2)))
        self.assertFalse(are_numbers((2, []), [], [2, 3], (5, 2), [(0, 1), (0, 1)]))
        self.assertTrue(are_numbers((2, []), [], [2, 3], (3, 1), [(0, 1), (0, 1)]))
        self.assertEqual(least_numbers((1, []), [], [9], (9, 1)), [(0, 1)])
        self.assertIsNone(least_numbers((1, []), [], [9], (899, 100)))

    def test_other_values_are_no_numbers(self):
        for value in any_values() + [[(0, 1)], [(0, 1), (0, 1), (0, 1)], [(0, 1), (0, 2)], [(2, 4), (0, 1)],
                                     [(-1, 1), (0, 1)], [(0, -1), (0, 1)], [(1, 0), (0, 1)], [(0, 1), (0, True)],
                                     [(False, 1), (0, 1)], [(0, 1, 1), (0, 1)], [[0, 1], [0, 1]], [0, 0],
                                     ((0, 1), (0, 1)), [(0, 1), None], [(0,), (0, 1)], [("0", 1), (0, 1)]]:
            right = repr(value) in ("[(0, 1), (0, 1)]", "[(0, 1), (1, 2)]", "[(1, 2), (0, 1)]")
            self.assertIs(are_numbers((2, []), [], [1, 2], (2, 1), value), right, value)
        self.assertTrue(are_numbers((2, []), [], [1, 2], (2, 1), [(10 ** 29, 7), (1, 10 ** 29)]))

    def test_at_the_limits(self):
        row = (12, [(at, at + 1, 9) for at in range(11)])
        self.assertEqual(least_numbers(row, [0] * 11, [9] * 12, (1000, 111)), [told(Fraction(9 * at)) for at in range(12)])
        net, times = complete(12, 9), [9, 8, 7, 6, 5, 4, 3, 2, 1, 5, 7, 9]
        standing = [(7 * at) % 8 + 1 for at in range(66)]
        for period in [(1000, 1), (1000, 111), (997, 101)]:
            found = least_numbers(net, standing, times, period)
            self.assertTrue(found is None or are_numbers(net, standing, times, period, found))
        self.assertEqual(least_numbers(net, standing, times, (1000, 1)), [(0, 1)] * 12)


class Tables(unittest.TestCase):
    def test_by_the_least_numbers(self):
        for net, standing, times in timed_cases(120, 153):
            for period, numbers in plain_numbers(net, standing, times, HALVES).items():
                if numbers is None:
                    with self.assertRaises(InvalidNumber) as caught:
                        table_of_numbers(net, standing, times, told(period), -1)
                    self.assertEqual(caught.exception.value, told(period))
                    continue
                found = table_of_numbers(net, standing, times, told(period), 25)
                beats = [[-(-(number + many * period) // 1) for many in range(26)] for number in numbers]
                self.assertEqual(found, [[house for house in range(net[0]) if beat in beats[house]]
                                         for beat in range(25)])
                self.assertTrue(is_timetable(net, standing, times, found))
                self.assertIsNotNone(plain.beat_by_beat(net, standing, times, 25, found))

    def test_as_often_in_the_long_run_as_once_in_a_period(self):
        found = table_of_numbers(RING, [1, 1, 1], [2, 1, 3], (13, 2), 500)
        for house in range(3):
            self.assertIn(sum(house in starting for starting in found), (76, 77))
        self.assertTrue(is_timetable(RING, [1, 1, 1], [2, 1, 3], found))

    def test_how_many_beats(self):
        self.assertEqual(table_of_numbers(PATH, [1, 0], [1, 1, 1], (2, 1), 0), [])
        self.assertEqual(len(table_of_numbers(PATH, [1, 0], [1, 1, 1], (2, 1), 500)), 500)
        self.assertEqual(table_of_numbers((1, []), [], [1], (1, 1), 3), [[0], [0], [0]])
        for wrong in (501, -1, True, None, "5", [5], 10 ** 29):
            with self.assertRaises(InvalidNumber) as caught:
                table_of_numbers(PATH, [1, 0], [1, 1, 1], (2, 1), wrong)
            self.assertIs(caught.exception.value, wrong)

    def test_at_the_limits(self):
        net, times = complete(12, 9), [9, 8, 7, 6, 5, 4, 3, 2, 1, 5, 7, 9]
        standing = [(7 * at) % 8 + 1 for at in range(66)]
        above, below = min(rates(net, standing, times))
        found = table_of_numbers(net, standing, times, (below, above), 500)
        self.assertTrue(is_timetable(net, standing, times, found))
        for house in range(12):
            self.assertLess(abs(sum(house in starting for starting in found) - 500 * above // below), 10)


class Errors(unittest.TestCase):
    def judge(self, call, arguments, error, wrong):
        with self.assertRaises(error) as caught:
            call(*arguments)
        self.assertIs(caught.exception.value, wrong)

    def test_periods(self):
        for wrong in (None, True, 2, "2", (2,), (2, 1, 1), [2, 1], (0, 1), (-1, 2), (1, 0), (1, -1), (-1, -1), (2, 2),
                      (4, 2), (0, 0), (True, 1), (1, True), (None, 1), ("1", 1), ((1, 1), 1), (10 ** 29, 10 ** 28)):
            for call, more in [(are_numbers, [[]]), (least_numbers, []), (table_of_numbers, [None])]:
                self.judge(call, [PATH, [1, 0], [1, 1, 1], wrong] + more, InvalidNumber, wrong)

    def test_in_the_order_of_the_arguments(self):
        wrong = [1, 1, 10]
        for call, more in [(rates, []), (slowest, [None]), (is_slowest, [None, 0]), (are_numbers, [None, 0]),
                           (least_numbers, [None]), (table_of_numbers, [None, None])]:
            self.judge(call, [PATH, [1, 0], wrong] + more, InvalidTimes, wrong)
        for house in (3, None, True, -1, "0"):
            self.judge(slowest, [PATH, [1, 0], [1, 1, 1], house], InvalidHouse, house)
            self.judge(is_slowest, [PATH, [1, 0], [1, 1, 1], house, [0, 1]], InvalidHouse, house)
        stuck, period = [0, 1, 0], (1000, 1)
        self.judge(table_of_numbers, [RING, stuck, [1, 1, 1], period, None], InvalidNumber, period)


if __name__ == "__main__":
    unittest.main()
