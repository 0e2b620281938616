"""[59]: few bits."""

import random
import unittest

from keyroads.bits import disk_size, small_after
from keyroads.errors import InvalidHouse, InvalidNet, InvalidScript
from keyroads.wire import believed, state_after
from tests import plain
from tests.plain import PATH, complete
from tests.plain_wire import random_script, some_scripts

TWO, HELD = (2, [(0, 1, 1)]), [1]


def least_multiple(numbers):
    """The least whole number above 0 that all of these divide, by trying one after the other."""
    found = 1
    while any(found % number for number in numbers):
        found += 1
    return found


class Examples(unittest.TestCase):
    def test_of_the_document(self):
        heard = [("send", 0, 1), ("bring", 0, 1), ("work", 1), ("send", 1, 0), ("bring", 1, 0)]
        self.assertEqual([small_after(TWO, HELD, heard), disk_size(TWO, 0), disk_size((3, [(0, 1, 1), (0, 2, 2)]), 0),
                          disk_size((1, []), 0)],
                         [([0, 1], [], [0, 1], [[], []]), 2, 6, 1])


class Sizes(unittest.TestCase):
    def test_least_multiples(self):
        for net in plain.some_nets() + [(4, [(0, 1, 3), (0, 2, 5), (0, 3, 9), (2, 3, 2)])]:
            for house in range(net[0]):
                numbers = [many + 1 for low, high, many in net[1] if house in (low, high)]
                self.assertEqual(disk_size(net, house), least_multiple(numbers))

    def test_one_bit(self):
        self.assertEqual([disk_size(complete(12, 1), house) for house in range(12)], [2] * 12)
        self.assertEqual(disk_size((3, [(0, 1, 1)]), 2), 1)

    def test_at_the_limits(self):
        star = (12, [(0, house, (house - 1) % 9 + 1) for house in range(1, 12)])
        self.assertEqual(disk_size(star, 0), 2520)
        self.assertEqual(disk_size(star, 9), 10)
        self.assertEqual(disk_size((3, [(0, 1, 10), (0, 2, 12)]), 0), 143)


class Small(unittest.TestCase):
    def judge(self, net, standing, events):
        works, resting, _, lines = state_after(net, standing, events)
        rests = [many % disk_size(net, house) for house, many in enumerate(works)]
        pairs = sorted(plain.key_table(net, standing))
        keys = [believed(net, standing, events, u, v) for u, v in pairs]
        self.assertEqual(small_after(net, standing, events), (rests, resting, keys, lines))

    def test_behind_scripts(self):
        for net, standing, events in some_scripts(300, 181):
            self.judge(net, standing, events)

    def test_behind_long_ones_with_many_works(self):
        """By works so many that the rests come round several times."""
        chance = random.Random(182)
        most = []
        for net, standing in [(TWO, [1]), (PATH, [1, 1]), ((2, [(0, 1, 3)]), [2]), (complete(3, 2), [1, 1, 2]),
                              ((4, [(0, 1, 1), (0, 3, 2), (1, 2, 4), (2, 3, 1)]), [1, 0, 2, 1])]:
            for _ in range(8):
                events = random_script(chance, net, standing, 400, ("work", "send", "bring", "lose", "double", "fall"))
                self.judge(net, standing, events)
                most.append(max(state_after(net, standing, events)[0]))
            self.judge(net, standing, random_script(chance, net, standing, 400, ("work", "send", "bring")))
        self.assertGreater(max(most), 10)

    def test_at_the_beginning(self):
        self.assertEqual(small_after(PATH, [1, 0], []), ([0, 0, 0], [], [None] * 4, [[]] * 4))
        self.assertEqual(small_after((1, []), [], [("work", 0), ("rest", 0)]), ([0], [0], [], []))

    def test_at_the_limits(self):
        chance = random.Random(183)
        net, standing = complete(12, 9), [(7 * at) % 8 + 1 for at in range(66)]
        self.judge(net, standing, random_script(chance, net, standing, 200))
        one_bit = complete(12, 1)
        self.judge(one_bit, [1] * 66, random_script(chance, one_bit, [1] * 66, 200))


class Errors(unittest.TestCase):
    def test_houses(self):
        for wrong in (2, -1, None, True, "0", [0]):
            with self.assertRaises(InvalidHouse) as caught:
                disk_size(TWO, wrong)
            self.assertIs(caught.exception.value, wrong)
        with self.assertRaises(InvalidNet) as caught:
            disk_size(None, None)
        self.assertIsNone(caught.exception.value)

    def test_scripts(self):
        for wrong in (None, (), [("work", 1)], [("bring", 0, 1)], [("fall", True)], [None], "", {}):
            with self.assertRaises(InvalidScript) as caught:
                small_after(TWO, HELD, wrong)
            self.assertIs(caught.exception.value, wrong)


if __name__ == "__main__":
    unittest.main()
