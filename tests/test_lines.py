"""[84]: lines."""

import random
import unittest

from keyroads.errors import InvalidLine, InvalidNet, InvalidStanding
from keyroads.lines import line_of, of_line
from tests import plain
from tests.plain import PATH, complete
from tests.plain_logs import plain_line, plain_of
from tests.values import any_values


class Lines(unittest.TestCase):
    def test_of_the_document(self):
        self.assertEqual([line_of((3, [(0, 1, 1), (1, 2, 2)]), [0, 2]), line_of((1, []), []), of_line("2: 0-1 2/3"),
                          of_line("4:")],
                         ["3: 0-1 1/0, 1-2 0/2", "1:", ((2, [(0, 1, 5)]), [3]), ((4, []), [])])

    def test_there_and_back(self):
        for net, standing in plain.some_cases():
            line = line_of(net, standing)
            self.assertEqual(line, plain_line(net, standing))
            self.assertEqual(of_line(line), (net, standing))
            self.assertEqual(plain_of(line), (net, standing))

    def judge(self, line):
        right = plain_of(line)
        if right is not None:
            self.assertEqual(of_line(line), right)
            return True
        with self.assertRaises(InvalidLine) as caught:
            of_line(line)
        self.assertIs(caught.exception.value, line)
        return False

    def test_spoiled(self):
        chance = random.Random(311)
        seen = [0, 0]
        for net, standing in plain.some_cases(100, 312):
            line = line_of(net, standing)
            for _ in range(20):
                at, sign = chance.randrange(len(line) + 1), chance.choice("0123/-:, \n+")
                for other in (line[:at] + sign + line[at:], line[:at] + line[at + 1:], line[:at] + sign + line[at + 1:],
                              line[:at], line[at:]):
                    seen[self.judge(other)] += 1
        self.assertGreater(min(seen), 200)

    def test_what_is_no_line(self):
        for line in ("", ":", "1", "0:", "1: ", " 1:", "1:\n", "1::", "01:", "+1:", "-1:", "1:,", "1.:", "a:", "3: 0-1",
                     "3: 0-1 1", "3: 0-1 1/", "3: 0-1 /1", "3:0-1 1/0", "3:  0-1 1/0", "3: 0-1  1/0", "3: 0-1 1/0 ",
                     "3: 0-1 1/0,", "3: 0-1 1/0,1-2 1/0", "3: 0-1 1/0 , 1-2 1/0", "3: 0-1 1/0,  1-2 1/0",
                     "3: 0-1 1/0; 1-2 1/0", "3: 1-0 1/0", "3: 0-0 1/0", "3: 0-3 1/0", "3: 0-1 0/0", "3: 00-1 1/0",
                     "3: 0-1 01/0", "3: 0-1 1/00", "3: 0-1 -1/2", "3: 0-1 1/0, 0-1 1/0", "3: 1-2 1/0, 0-1 1/0",
                     "3: 0-1 1/0, 0-1 2/0", "3: 0-1-2 1/0", "3: 0-1 1/0/0", "3 : 0-1 1/0", "3: 0 1 1/0", "3: 0-1 1/0\n",
                     "3: 0-1 1/0\r", "3: 0-1 1/0, ", "3: 0_1 1/0", "3: 0-1 1-0", "3: 0/1 1/0", "3:\t0-1 1/0"):
            self.assertFalse(self.judge(line), line)
            self.assertIsNone(plain_of(line), line)
        for value in any_values():
            self.assertFalse(self.judge(value))

    def test_at_the_limits(self):
        net, standing = complete(12, 9), [(7 * at) % 8 + 1 for at in range(66)]
        line = line_of(net, standing)
        self.assertTrue(self.judge(line))
        self.assertEqual(of_line(line), (net, standing))
        great = 10 ** 29
        self.assertEqual(of_line(line_of((great, [(0, great - 1, great)]), [7])), ((great, [(0, great - 1, great)]), [7]))
        with self.assertRaises(InvalidLine):
            of_line("9" * 5000)
        self.assertEqual(len(of_line("9" * 5000 + ":")[1]), 0)

    def test_errors(self):
        with self.assertRaises(InvalidNet) as caught:
            line_of(None, None)
        self.assertIsNone(caught.exception.value)
        with self.assertRaises(InvalidStanding) as caught:
            line_of(PATH, (1, 2))
        self.assertEqual(caught.exception.value, (1, 2))


if __name__ == "__main__":
    unittest.main()
