"""[76] to [78]: logs, torn logs and snapshots."""

import itertools
import random
import unittest

from keyroads.errors import InvalidLine, InvalidNet, InvalidScript, InvalidStanding
from keyroads.logs import log_of, mended, replayed, resumed, script_of, snapshot, state_of_snapshot
from keyroads.wire import state_after
from tests.plain import PATH, TAIL, complete
from tests.plain_logs import plain_log, plain_read, plain_snapshot, plain_state
from tests.plain_wire import random_script, some_scripts
from tests.values import any_values

TWO = (2, [(0, 1, 1)])
SCRIPT = [("send", 0, 1), ("bring", 0, 1), ("work", 1)]
LOG = "0 send 0 1\n1 bring 0 1\n2 work 1\n"
SNAPSHOT = "works 0 1\nresting\nline 0 1 0\nline 1 0 - 1\n"
# What may stand in the place of any sign of a text.
SIGNS = "\n 0129-+x_\t\r"


def spoiled(chance, text):
    """Texts that come of one by a sign more, a sign less or another one, and by lines less, doubled or exchanged."""
    at, rows = chance.randrange(len(text) + 1), text.splitlines(True)
    found = [text[:at], text[at:], text[:at] + chance.choice(SIGNS) + text[at:], text[:at] + text[at + 1:],
             text[:at] + chance.choice(SIGNS) + text[at + 1:], text + chance.choice(SIGNS), text + "0 send 0 1\n"]
    if rows:
        row, other = chance.randrange(len(rows)), chance.randrange(len(rows))
        found.append("".join(rows[:row] + rows[row + 1:]))
        found.append("".join(rows[:row] + rows[row:row + 1] + rows[row:]))
        rows[row], rows[other] = rows[other], rows[row]
        found.append("".join(rows))
    return found


class Examples(unittest.TestCase):
    def test_of_the_document(self):
        self.assertEqual([log_of(TWO, [1], SCRIPT), script_of(TWO, [1], "0 send 0 1\n"),
                          mended(TWO, [1], "0 send 0 1\n1 bring 0 1\n2 wo"),
                          replayed(TWO, [1], "0 send 0 1\n1 work 1\n")],
                         [LOG, [("send", 0, 1)], "0 send 0 1\n1 bring 0 1\n", ([0, 0], [], [None, None], [[0], []])])
        self.assertEqual([snapshot(TWO, [1], SCRIPT + [("send", 1, 0)]), state_of_snapshot(TWO, SNAPSHOT),
                          resumed(TWO, [1], snapshot(TWO, [1], SCRIPT), [("rest", 0)])[1]],
                         [SNAPSHOT, ([0, 1], [], [0, None], [[], [1]]), [0]])


class Logs(unittest.TestCase):
    def test_written_and_read(self):
        for net, standing, events in some_scripts(150, 261):
            text = log_of(net, standing, events)
            self.assertEqual(text, plain_log(events))
            self.assertEqual(script_of(net, standing, text), events)
            self.assertEqual(mended(net, standing, text), text)
            self.assertEqual(replayed(net, standing, text), state_after(net, standing, events))

    def judge(self, net, standing, text):
        events, length = plain_read(net, standing, text)
        self.assertEqual(mended(net, standing, text), text[:length])
        self.assertEqual(replayed(net, standing, text), state_after(net, standing, events))
        self.assertEqual(mended(net, standing, text[:length]), text[:length])
        if length == len(text):
            self.assertEqual(script_of(net, standing, text), events)
            return True
        with self.assertRaises(InvalidLine) as caught:
            script_of(net, standing, text)
        self.assertEqual(repr(caught.exception.value), repr(len(events)))
        return False

    def test_spoiled(self):
        chance = random.Random(262)
        right = [0, 0]
        for net, standing, events in some_scripts(120, 263, length=12):
            for text in spoiled(chance, plain_log(events)):
                right[self.judge(net, standing, text)] += 1
        self.assertGreater(min(right), 100)

    def test_cut_off_anywhere(self):
        for net, standing, events in some_scripts(30, 264, length=10):
            text = plain_log(events)
            for at in range(len(text) + 1):
                whole = text[:at].count("\n")
                self.assertEqual(mended(net, standing, text[:at]), plain_log(events[:whole]))
                self.assertEqual(replayed(net, standing, text[:at]), state_after(net, standing, events[:whole]))

    def test_anything_behind_a_log(self):
        for more in ("x", "3", "3 ", "\n", " ", "2 work 1\n", "3 work 1\n", "4 fall 0\n", "3 fall 2\n", "3 fall 00\n",
                     "3 fall 0", "3 fall 0 \n", " 3 fall 0\n", "3  fall 0\n", "3 fall +0\n", "3 Fall 0\n", "03 fall 0\n",
                     "3 fall 0\r\n", "\r\n", "3 fall\n", "3\n", "3 fall 0 0\n", "3 wake 0\n", "3 fall -0\n"):
            self.assertEqual(mended(TWO, [1], LOG + more), LOG)
            with self.assertRaises(InvalidLine) as caught:
                script_of(TWO, [1], LOG + more + "4 fall 0\n")
            self.assertEqual(caught.exception.value, 3)
        self.assertEqual(mended(TWO, [1], LOG + "3 fall 0\nrest"), LOG + "3 fall 0\n")

    def test_first_wrong_line(self):
        for text, right in [("0", 0), ("0 send 0 1", 0), ("\n", 0), ("1 send 0 1\n", 0), ("0 send 0 1\n\n", 1),
                            ("0 send 0 1\n1 work 1\n2 bring 0 1\n", 1), (LOG[:-1], 2), (LOG + "3 fall 1", 3),
                            ("0 work 1\n", 0), ("0 bring 0 1\n", 0), ("0 send 0 2\n", 0), ("0 send 00 1\n", 0),
                            ("0 lose 0 1 0\n", 0), ("x\n" + LOG, 0), (LOG + LOG, 3), ("0 send 0 1\r1 bring 0 1\n", 0),
                            ("0 send 0 1\x0b\n", 0), ("0 send 0 1\n1 double 0 1 0\n2 lose 0 1 2\n", 2)]:
            with self.assertRaises(InvalidLine) as caught:
                script_of(TWO, [1], text)
            self.assertEqual(repr(caught.exception.value), repr(right), text)
        self.assertEqual(script_of(TWO, [1], "0 send 0 1\n1 double 0 1 0\n2 lose 0 1 1\n"),
                         [("send", 0, 1), ("double", 0, 1, 0), ("lose", 0, 1, 1)])

    def test_empty_texts_and_great_numbers(self):
        self.assertEqual((log_of((1, []), [], []), script_of((1, []), [], ""), mended((1, []), [], "")), ("", [], ""))
        self.assertEqual(replayed((1, []), [], "work"), ([0], [], [], []))
        many = [("work", 0)] * 12
        self.assertEqual(script_of((1, []), [], plain_log(many)), many)
        with self.assertRaises(InvalidLine) as caught:
            script_of((1, []), [], "0 work " + "9" * 5000 + "\n")
        self.assertEqual(caught.exception.value, 0)
        self.assertEqual(mended((1, []), [], "0 work 0\n" + "1" * 5000), "0 work 0\n")

    def test_at_the_limits(self):
        chance = random.Random(265)
        net, standing = complete(12, 9), [(7 * at) % 8 + 1 for at in range(66)]
        events = random_script(chance, net, standing, 200)
        text = log_of(net, standing, events)
        self.assertEqual(script_of(net, standing, text), events)
        self.assertEqual(mended(net, standing, text[:-1]), plain_log(events[:-1]))
        self.assertEqual(replayed(net, standing, text), state_after(net, standing, events))
        shot = snapshot(net, standing, events[:150])
        self.assertEqual(resumed(net, standing, shot, events[150:]), state_after(net, standing, events))


class Snapshots(unittest.TestCase):
    def test_written_and_read(self):
        for net, standing, events in some_scripts(150, 266):
            state = state_after(net, standing, events)
            text = snapshot(net, standing, events)
            self.assertEqual(text, plain_snapshot(net, state))
            self.assertEqual(state_of_snapshot(net, text), state)
            self.assertEqual(plain_state(net, text), state)

    def judge(self, net, text):
        right = plain_state(net, text)
        if isinstance(right, tuple):
            self.assertEqual(state_of_snapshot(net, text), right)
            return True
        with self.assertRaises(InvalidLine) as caught:
            state_of_snapshot(net, text)
        self.assertEqual(repr(caught.exception.value), repr(right), text)
        with self.assertRaises(InvalidLine) as caught:
            resumed(net, [0] * len(net[1]), text, None)
        self.assertEqual(repr(caught.exception.value), repr(right), text)
        return False

    def test_spoiled(self):
        chance = random.Random(267)
        right = [0, 0]
        for net, standing, events in some_scripts(150, 268):
            for text in spoiled(chance, snapshot(net, standing, events)):
                right[self.judge(net, text)] += 1
        self.assertGreater(min(right), 40)

    def test_first_wrong_line(self):
        rows = SNAPSHOT.splitlines(True)
        for text, right in [("", 0), ("works 0 1", 0), ("works 0 1\n", 1), ("\n", 0), ("works 0\n", 0),
                            ("works 0 1 2\n", 0), ("works 0 1 \n", 0), ("works 0 01\n", 0), ("works  0 1\n", 0),
                            ("works 0 -1\n", 0), ("Works 0 1\n", 0), ("resting\n", 0), ("".join(rows[:2]), 2),
                            (SNAPSHOT[:-1], 3), (SNAPSHOT + "x", 4), (SNAPSHOT + "\n", 4), (SNAPSHOT + rows[-1], 4),
                            ("".join(rows[:2] + rows[3:]), 2), ("".join(rows[:1] + rows[2:]), 1),
                            (rows[0] + "resting 1 0\n", 1), (rows[0] + "resting 0 0\n", 1), (rows[0] + "resting 2\n", 1),
                            (rows[0] + "resting \n", 1), (rows[0] + "resting 00\n", 1), (rows[0] + "resting -\n", 1)]:
            self.assertFalse(self.judge(TWO, text))
            self.assertEqual(plain_state(TWO, text), right, text)
        for row, right in [("line 0 1 -\n", True), ("line 0 1 7\n", True), ("line 0 1 - 0 1 1 0\n", True),
                           ("line 0 1\n", False), ("line 0 1 \n", False), ("line 0 1 - 2\n", False),
                           ("line 0 1 - -\n", False), ("line 0 1 07\n", False), ("line 0 1 -1\n", False),
                           ("line 0 1 - 1 \n", False), ("line 0 1  0\n", False), ("line 1 0 -\n", False),
                           ("line 0 01 -\n", False), ("line 0 1 -- 0\n", False), ("line 0 10\n", False)]:
            text = rows[0] + rows[1] + row + rows[3]
            self.assertIs(self.judge(TWO, text), right)
            if not right:
                self.assertEqual(plain_state(TWO, text), 2)

    def test_states_that_no_script_leads_to(self):
        text = "works 7 0\nresting 0 1\nline 0 1 99 1 0\nline 1 0 -\n"
        self.assertEqual(state_of_snapshot(TWO, text), ([7, 0], [0, 1], [99, None], [[1, 0], []]))
        self.assertEqual(resumed(TWO, [1], text, [("bring", 0, 1), ("fall", 0)]), ([7, 0], [0, 1], [-1, None], [[0], []]))
        great = "works " + "9" * 30 + "\nresting\n"
        self.assertEqual(state_of_snapshot((1, []), great)[0], [10 ** 30 - 1])
        self.assertEqual(resumed((1, []), [], great, [("work", 0)])[0], [10 ** 30])
        self.assertEqual(len(state_of_snapshot((2, []), "works 0 " + "1" * 5000 + "\nresting\n")[0]), 2)

    def test_resumed_anywhere(self):
        for net, standing, events in some_scripts(100, 269):
            whole = state_after(net, standing, events)
            for at in range(0, len(events) + 1, 3):
                text = snapshot(net, standing, events[:at])
                self.assertEqual(resumed(net, standing, text, events[at:]), whole)
                self.assertEqual(resumed(net, standing, text, []), state_after(net, standing, events[:at]))

    def test_one_house_and_stuck_rings(self):
        self.assertEqual(snapshot((1, []), [], []), "works 0\nresting\n")
        self.assertEqual(state_of_snapshot((1, []), "works 0\nresting 0\n"), ([0], [0], [], []))
        self.assertEqual(snapshot(TAIL, [0, 1, 0, 1], [("rest", 2)]).split("\n")[1], "resting 2")

    def test_events_that_are_not_possible(self):
        text = snapshot(TWO, [1], SCRIPT)
        for wrong in (None, (), [("bring", 0, 1)], [("work", 1)], [None], "", {}, [("fall", 0), ("bring", 1, 0)],
                      [("rest", 0), ("rest", 0)], [("fall", True)]):
            with self.assertRaises(InvalidScript) as caught:
                resumed(TWO, [1], text, wrong)
            self.assertIs(caught.exception.value, wrong)
        with self.assertRaises(InvalidScript):
            resumed(TWO, [1], "works 0 0\nresting 1\nline 0 1 0\nline 1 0 -\n", [("work", 1)])
        self.assertEqual(resumed(TWO, [1], "works 0 0\nresting\nline 0 1 0\nline 1 0 -\n", [("work", 1)])[0], [0, 1])


class Errors(unittest.TestCase):
    def test_texts_are_strings(self):
        calls = [script_of, mended, replayed, lambda net, standing, text: state_of_snapshot(net, text),
                 lambda net, standing, text: resumed(net, standing, text, None)]
        for call, wrong in itertools.product(calls, [value for value in any_values() if type(value) is not str]):
            with self.assertRaises(InvalidLine) as caught:
                call(TWO, [1], wrong)
            self.assertIs(caught.exception.value, wrong)

    def test_nets_standings_and_scripts(self):
        for call in (script_of, mended, replayed, log_of, snapshot,
                     lambda net, standing, text: resumed(net, standing, text, None)):
            with self.assertRaises(InvalidNet):
                call((0, []), None, None)
            with self.assertRaises(InvalidStanding):
                call(TWO, [2], None)
        with self.assertRaises(InvalidNet):
            state_of_snapshot((0, []), None)
        for call, wrong in itertools.product((log_of, snapshot), (None, (), [("work", 1)], [("fall", True)], "", {})):
            with self.assertRaises(InvalidScript) as caught:
                call(TWO, [1], wrong)
            self.assertIs(caught.exception.value, wrong)
        self.assertEqual(log_of(PATH, [1, 0], [("double", 0, 1, 0)][:0]), "")


if __name__ == "__main__":
    unittest.main()
