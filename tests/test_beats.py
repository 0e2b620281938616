"""[45] to [47]: beats."""

import itertools
import random
import unittest

from keyroads.beats import is_timetable, starts, turning
from keyroads.errors import InvalidNet, InvalidNumber, InvalidStanding, InvalidTimes, TooMany
from tests import plain
from tests.plain import PATH, RING, TAIL, complete, some_cases
from tests.values import any_values


def timed_cases(many, seed, most_time=3):
    """Small nets and standings, stuck ones among them, with times."""
    chance = random.Random(seed)
    cases = [(net, standing, [chance.randint(1, most_time) for _ in range(net[0])])
             for net, standing in some_cases(many, seed)]
    for _ in range(many // 3):
        net, standing = plain.random_case(chance, 5, 4, 0.5)
        cases.append((net, standing, [chance.randint(1, 9) for _ in range(5)]))
    return cases


def plain_turning(net, standing, times, most):
    """The first beats until a state comes again, and where it came first."""
    for many in (min(most, 60), most):
        found, states = plain.beat_by_beat(net, standing, times, many)
        for beat, state in enumerate(states):
            if state in states[:beat]:
                return found[:beat], states.index(state)
    return None


def beside(one, other):
    """Two nets with their standings and times, put beside one another as one."""
    (net, standing, times), (later, more, slower) = one, other
    roads = [(low + net[0], high + net[0], many) for low, high, many in later[1]]
    return (net[0] + later[0], net[1] + roads), standing + more, times + slower


# The states of both together come again at the beat 2,000 for the first time ..
JUST = beside(((4, [(0, 1, 4), (0, 2, 3), (1, 2, 5), (1, 3, 3), (2, 3, 5)]), [1, 2, 0, 0, 5], [9, 5, 8, 7]),
              ((6, [(0, 3, 3), (0, 4, 2), (1, 3, 6), (1, 4, 4), (1, 5, 8), (2, 4, 8), (3, 4, 3)]),
               [0, 0, 0, 0, 7, 1, 0], [9, 5, 6, 3, 7, 9]))
# .. and these at the beat 2,001.
OVER = beside(((5, [(0, 1, 2), (0, 2, 3), (0, 3, 8), (1, 2, 1), (1, 4, 6), (2, 4, 7), (3, 4, 6)]),
               [2, 3, 0, 0, 5, 1, 0], [7, 8, 7, 9, 8]),
              ((6, [(0, 2, 6), (0, 4, 4), (0, 5, 4), (1, 2, 8), (1, 3, 8), (1, 4, 6), (2, 4, 6), (2, 5, 1), (4, 5, 3)]),
               [0, 3, 0, 3, 6, 3, 5, 0, 2], [2, 6, 5, 9, 9, 3]))


def is_shortest(cycle):
    """Whether a list is no shorter one repeated."""
    return not [size for size in range(1, len(cycle)) if cycle == (cycle[:size] * len(cycle))[:len(cycle)]
                and len(cycle) % size == 0]


class Examples(unittest.TestCase):
    def test_of_the_document(self):
        self.assertEqual([starts(PATH, [1, 0], [1, 2, 1], 4), turning(PATH, [1, 0], [1, 2, 1]),
                          turning(RING, [1, 1, 1], [2, 1, 3]), turning((2, []), [], [2, 3])],
                         [[[1], [], [0, 2], [1]], ([], [[1], [], [0, 2]]), ([], [[2], [], [], [1], [0], []]),
                          ([], [[0, 1], [], [0], [1], [0], []])])
        self.assertEqual([is_timetable(PATH, [1, 0], [1, 2, 1], [[1], [], [0]]),
                          is_timetable(PATH, [1, 0], [1, 2, 1], [[], [1], [0]]),
                          is_timetable(PATH, [1, 0], [1, 2, 1], [])],
                         [True, False, True])


class Starts(unittest.TestCase):
    def test_beat_by_beat(self):
        for net, standing, times in timed_cases(200, 121):
            for many in (0, 1, 2, 30):
                self.assertEqual(starts(net, standing, times, many),
                                 plain.beat_by_beat(net, standing, times, many)[0])

    def test_all_at_once_with_times_of_one(self):
        for net, standing in some_cases(100, 122):
            here, right = standing, []
            for _ in range(12):
                able = [house for house in range(net[0]) if plain.can_work(net, here, house)]
                right.append(able)
                here = plain.behind(net, here, able)
            self.assertEqual(starts(net, standing, [1] * net[0], 12), right)

    def test_the_works_are_a_run_in_any_order_of_one_beat(self):
        chance = random.Random(123)
        for net, standing, times in timed_cases(100, 124):
            run = []
            for starting in starts(net, standing, times, 25):
                chance.shuffle(starting)
                run.extend(starting)
            self.assertTrue(plain.is_run(net, standing, run))

    def test_edges(self):
        self.assertEqual(starts((1, []), [], [3], 5), [[0], [], [], [0], []])
        self.assertEqual(starts((2, [(0, 1, 1)]), [1], [9, 9], 20), [[1]] + [[]] * 8 + [[0]] + [[]] * 8 + [[1], []])
        self.assertEqual(starts(RING, [0, 1, 0], [1, 1, 1], 3), [[], [], []])
        self.assertEqual(starts(TAIL, [0, 1, 0, 1], [1, 1, 1, 1], 3), [[3], [], []])
        self.assertEqual(starts((5, RING[1] + [(3, 4, 2)]), [0, 1, 0, 1], [1, 1, 1, 2, 1], 4), [[3, 4], [], [3, 4], []])
        self.assertEqual(starts(PATH, [1, 0], [1, 2, 1], 0), [])

    def test_how_many_beats(self):
        self.assertEqual(len(starts(PATH, [1, 0], [1, 2, 1], 500)), 500)
        for wrong in (501, 10 ** 29, -1, True, False, None, "5", [5], (5,)):
            with self.assertRaises(InvalidNumber) as caught:
                starts(PATH, [1, 0], [1, 2, 1], wrong)
            self.assertIs(caught.exception.value, wrong)

    def test_at_the_limits(self):
        net, chance = complete(12, 9), random.Random(125)
        standing, times = [chance.randint(0, 9) for _ in range(66)], [chance.randint(1, 9) for _ in range(12)]
        self.assertEqual(starts(net, standing, times, 500), plain.beat_by_beat(net, standing, times, 500)[0])


class Turning(unittest.TestCase):
    def judge(self, net, standing, times, most=2001):
        told = turning(net, standing, times)
        self.assertIs(type(told), tuple)
        ahead, cycle = told
        found, at = plain_turning(net, standing, times, most)
        beats = len(found)
        self.assertEqual(ahead + (cycle * beats)[:beats - len(ahead)], found)
        self.assertLessEqual(len(ahead), at)
        self.assertEqual((beats - at) % len(cycle), 0)
        self.assertTrue(is_shortest(cycle))
        self.assertTrue(ahead == [] or ahead[-1] != cycle[-1])

    def test_beat_by_beat(self):
        for net, standing, times in timed_cases(250, 126):
            self.judge(net, standing, times)

    def test_long_times_and_several_parts(self):
        chance = random.Random(127)
        for _ in range(40):
            net, standing = plain.random_case(chance, 4, 5, 0.4)
            self.judge(net, standing, [chance.choice((1, 3, 6, 9)) for _ in range(4)])

    def test_as_short_as_can_be(self):
        self.assertEqual(turning((1, []), [], [1]), ([], [[0]]))
        self.assertEqual(turning(RING, [0, 1, 0], [1, 1, 1]), ([], [[]]))
        self.assertEqual(turning((2, [(0, 1, 4)]), [0], [1, 1]), ([[0]], [[0, 1]]))
        self.assertEqual(turning(TAIL, [0, 1, 0, 1], [1, 1, 1, 3]), ([[3]], [[]]))
        self.assertEqual(turning((2, []), [], [2, 2]), ([], [[0, 1], []]))

    def test_turned_back_as_far_as_can_be(self):
        """A state may come again only later than what starts does, as here, where keys still gather."""
        shorter = 0
        for net, standing, times in timed_cases(200, 128):
            found, at = plain_turning(net, standing, times, 2001)
            told = turning(net, standing, times)
            shorter += len(told[0]) < at
        self.assertGreater(shorter, 0)

    def test_both_sides_of_the_bound(self):
        self.assertEqual(len(turning((4, []), [], [4, 9, 5, 7])[1]), 1260)
        self.judge(*JUST)
        self.assertEqual(plain_turning(*JUST, 2001)[1] + 29 * 19, 2000)
        self.assertIsNone(plain_turning(*OVER, 2001))
        self.assertEqual(len(plain_turning(*OVER, 2002)[0]), 2001)
        for net, standing, times in [OVER, ((4, []), [], [8, 9, 5, 7]),
                                     ((12, [(0, 11, 1)]), [0], [5, 1, 7, 8, 1, 9, 1, 1, 1, 1, 1, 5])]:
            with self.assertRaises(TooMany) as caught:
                turning(net, standing, times)
            self.assertEqual(caught.exception.value, 2001)

    def test_at_the_limits(self):
        net, chance = complete(12, 9), random.Random(129)
        standing = [chance.randint(0, 9) for _ in range(66)]
        ahead, cycle = turning(net, standing, [2] * 12)
        self.assertEqual(ahead + (cycle * 500)[:500 - len(ahead)], starts(net, standing, [2] * 12, 500))
        row = (12, [(at, at + 1, 9) for at in range(11)])
        ahead, cycle = turning(row, [9] * 11, [9, 8, 7, 6, 5, 4, 3, 2, 1, 5, 7, 9])
        self.assertEqual((ahead + cycle * 500)[:500], starts(row, [9] * 11, [9, 8, 7, 6, 5, 4, 3, 2, 1, 5, 7, 9], 500))


class Timetables(unittest.TestCase):
    def test_over_all_lists_of_few_beats(self):
        for net, standing, times in [(PATH, [1, 0], [1, 2, 1]), (PATH, [0, 2], [2, 1, 3]), (RING, [1, 1, 1], [1, 1, 2]),
                                     ((2, [(0, 1, 2)]), [1], [2, 1]), ((3, [(0, 1, 1)]), [0], [1, 2, 1])]:
            choices = plain.subsets(range(net[0]))
            for beats in range(4):
                for chosen in itertools.product(choices, repeat=beats):
                    right = plain.beat_by_beat(net, standing, times, beats, chosen) is not None
                    self.assertIs(is_timetable(net, standing, times, list(chosen)), right)

    def test_all_at_once_is_the_earliest_one(self):
        chance = random.Random(130)
        for net, standing, times in timed_cases(80, 131):
            found = [[] for _ in range(20)]
            for beat in range(20):
                ready = [house for house in range(net[0])
                         if plain.beat_by_beat(net, standing, times, beat + 1, found[:beat] + [[house]])]
                found[beat] = [house for house in ready if chance.random() < 0.6]
            self.assertTrue(is_timetable(net, standing, times, found))
            earliest = starts(net, standing, times, 20)
            self.assertTrue(is_timetable(net, standing, times, earliest))
            for house in range(net[0]):
                later = [beat for beat, starting in enumerate(found) if house in starting]
                sooner = [beat for beat, starting in enumerate(earliest) if house in starting]
                self.assertLessEqual(len(later), len(sooner))
                self.assertTrue(all(one <= two for one, two in zip(sooner, later)))

    def test_one_more_start_is_none(self):
        for net, standing, times in timed_cases(60, 132):
            earliest = starts(net, standing, times, 6)
            for beat, house in itertools.product(range(6), range(net[0])):
                if house not in earliest[beat]:
                    more = [list(starting) for starting in earliest[:beat + 1]]
                    more[beat] = sorted(more[beat] + [house])
                    self.assertFalse(is_timetable(net, standing, times, more))

    def test_other_values_are_none(self):
        right = ["[]", "[[0, 1]]", "[[0]]", "[[], []]", "[[0], [1], []]"]
        for value in any_values() + [[[0, 1], [0, 1]], [(0, 1)], ([0],), [[1, 0]], [[0, 0]], [[True]], [[2]], [[-1]],
                                     [[0]], [["0"]], [0], [None], [[], []], [[], None], {0: [0]}]:
            self.assertIs(is_timetable((2, []), [], [2, 2], value), repr(value) in right, value)

    def test_longer_ones(self):
        self.assertTrue(is_timetable((1, []), [], [3], [[0], [], []] * 700))
        self.assertFalse(is_timetable((1, []), [], [3], [[0], [], []] * 700 + [[0], [], [0]]))


class Errors(unittest.TestCase):
    def test_times(self):
        for wrong in (None, (), (1, 1, 1), [1, 1], [1, 1, 1, 1], [0, 1, 1], [1, 10, 1], [1, 1, True], [1, None, 1],
                      [1, 1, -1], [], "111", {0: 1}, [1, 1, 10 ** 29]):
            for call in (lambda net, standing, times: starts(net, standing, times, None), turning,
                         lambda net, standing, times: is_timetable(net, standing, times, [])):
                for arguments, error, at in [((None, None, wrong), InvalidNet, 0),
                                             ((PATH, [1, 3], wrong), InvalidStanding, 1),
                                             ((PATH, [1, 0], wrong), InvalidTimes, 2)]:
                    with self.assertRaises(error) as caught:
                        call(*arguments)
                    self.assertIs(caught.exception.value, arguments[at])

    def test_times_of_one_to_nine(self):
        for time in range(1, 10):
            self.assertEqual(turning((1, []), [], [time]), ([], [[0]] + [[]] * (time - 1)))


if __name__ == "__main__":
    unittest.main()
