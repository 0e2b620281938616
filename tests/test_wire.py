"""[52] to [58]: the wire."""

import itertools
import random
import unittest

from keyroads.counts import counts, last_standing
from keyroads.errors import InvalidHouse, InvalidNumber, InvalidScript, InvalidStanding
from keyroads.wire import (believed, believing, flushed, gone_on, is_event, is_script, left_counts, meant, read_letter,
                           run_of, state_after)
from tests import plain, plain_wire
from tests.plain import PATH, RING, TAIL, complete
from tests.plain_wire import random_script, some_scripts, wire_behind
from tests.values import any_values

TWO, HELD = (2, [(0, 1, 1)]), [1]
WORDS = ("work", "send", "bring", "lose", "double", "fall", "rest")


def candidates(net):
    """All tuples that look like events of a net, and some that do not."""
    found = []
    for word in WORDS + ("", "Work", "works", 0, None):
        for size in range(4):
            found += [(word,) + numbers for numbers in itertools.product(range(-1, min(net[0], 2) + 1), repeat=size)]
    return found


class Examples(unittest.TestCase):
    def test_of_the_document(self):
        script = [("send", 0, 1), ("bring", 0, 1), ("work", 1), ("send", 1, 0)]
        more = [("double", 1, 0, 0), ("lose", 1, 0, 0), ("bring", 1, 0)]
        self.assertEqual([state_after(TWO, HELD, script), state_after(TWO, HELD, script + more)],
                         [([0, 1], [], [0, None], [[], [1]]), ([0, 1], [], [0, 1], [[], []])])
        heard = script + [("bring", 1, 0)]
        self.assertEqual([believed(TWO, HELD, heard, 1, 0), believed(TWO, HELD, heard, 0, 1),
                          believing(TWO, HELD, heard), meant(TWO, HELD, heard), run_of(heard),
                          read_letter(TWO, HELD, 1, 0, 0, 1)],
                         [1, 0, [0], [0], [1], 1])
        self.assertEqual([is_script(TWO, HELD, [("work", 1)]), is_event(TWO, HELD, heard, ("work", 0)),
                          is_event(TWO, HELD, heard + [("fall", 0)], ("work", 0)),
                          is_event(TWO, HELD, heard, ("bring", 1, 0))],
                         [False, True, False, False])
        self.assertEqual([flushed(TWO, HELD, script)[4:], left_counts(TWO, HELD, script + [("rest", 1)]),
                          gone_on(TWO, HELD, script, [])],
                         [[("send", 0, 1), ("bring", 0, 1), ("send", 1, 0), ("bring", 1, 0), ("bring", 1, 0)],
                          [1, 0], None])
        ended = gone_on(TWO, HELD, script + [("rest", 1)], [])
        self.assertEqual([run_of(ended), state_after(TWO, HELD, ended)[0], meant(TWO, HELD, ended),
                          believing(TWO, HELD, ended)],
                         [[1, 0], [1, 1], [1], []])


class Letters(unittest.TestCase):
    def test_the_one_number_with_this_rest(self):
        for net, standing in plain.some_cases():
            table = plain.key_table(net, standing)
            for low, high, many in net[1]:
                for (u, v), own, letter in itertools.product([(low, high), (high, low)], range(7), range(many + 1)):
                    first = table[u, v]
                    right = [y for y in range(own - first, own - first + many + 1) if y % (many + 1) == letter]
                    self.assertEqual([read_letter(net, standing, u, v, own, letter)], right)
                    self.assertTrue(0 <= first + right[0] - own <= many)

    def test_below_zero_and_very_great(self):
        self.assertEqual(read_letter(TWO, [1], 0, 1, 0, 1), -1)
        self.assertEqual(read_letter((2, [(0, 1, 9)]), [9], 0, 1, 0, 1), -9)
        self.assertEqual(read_letter((2, [(0, 1, 9)]), [4], 0, 1, 10 ** 29, 3), 10 ** 29 + 3)
        self.assertEqual(read_letter((2, [(0, 1, 9)]), [4], 0, 1, 10 ** 29, 7), 10 ** 29 - 3)

    def test_errors(self):
        for u, v, own, letter, error, wrong in [
                (3, None, None, None, InvalidHouse, 3), (True, 0, 0, 0, InvalidHouse, True),
                (0, 2, None, None, InvalidHouse, 2), (0, 0, None, None, InvalidHouse, 0),
                (0, True, 0, 0, InvalidHouse, True), (0, None, 0, 0, InvalidHouse, None),
                (0, 1, -1, None, InvalidNumber, -1), (0, 1, True, 0, InvalidNumber, True),
                (0, 1, "0", 9, InvalidNumber, "0"), (0, 1, 0, 2, InvalidNumber, 2), (0, 1, 0, -1, InvalidNumber, -1),
                (0, 1, 0, False, InvalidNumber, False), (1, 2, 0, 3, InvalidNumber, 3), (0, 1, 5, [0], InvalidNumber, [0])]:
            with self.assertRaises(error) as caught:
                read_letter(PATH, [1, 1], u, v, own, letter)
            self.assertEqual(repr(caught.exception.value), repr(wrong))


class Scripts(unittest.TestCase):
    def test_all_of_few_events(self):
        """All scripts of up to three events, gone through event by event, and what else may not be one."""
        for net, standing in [(TWO, [1]), (TWO, [0]), ((2, [(0, 1, 2)]), [1]), ((1, []), []), ((2, []), [])]:
            tried = candidates(net)
            for size in range(4 if net == TWO else 3):
                for events in self.scripts(net, standing, size):
                    wire = wire_behind(net, standing, events)
                    possible = wire.possible()
                    self.assertTrue(is_script(net, standing, events))
                    self.assertEqual(state_after(net, standing, events), wire.state())
                    for event in tried:
                        right = event in possible
                        self.assertIs(is_event(net, standing, events, event), right, (events, event))
                        if size < 2:
                            self.assertIs(is_script(net, standing, events + [event]), right)

    def scripts(self, net, standing, size):
        found = [[]]
        for _ in range(size):
            found = [events + [event] for events in found for event in wire_behind(net, standing, events).possible()]
        return found

    def test_long_ones(self):
        for net, standing, events in some_scripts(150, 161):
            wire = wire_behind(net, standing, events)
            possible = wire.possible()
            self.assertTrue(is_script(net, standing, events))
            self.assertEqual(state_after(net, standing, events), wire.state())
            self.assertEqual(believing(net, standing, events), wire.believing())
            self.assertEqual(meant(net, standing, events), wire.meant())
            self.assertEqual(run_of(events), [event[1] for event in events if event[0] == "work"])
            for u, v in wire.table:
                self.assertEqual(believed(net, standing, events, u, v), wire.belief(u, v))
            for word in WORDS:
                for event in [(word, house) for house in range(net[0])] + [(word, u, v) for u, v in wire.table]:
                    self.assertIs(is_event(net, standing, events, event), event in possible)
                for (u, v), place in itertools.product(wire.table, range(4)):
                    right = (word, u, v, place) in possible
                    self.assertIs(is_event(net, standing, events, (word, u, v, place)), right)

    def test_each_event_has_to_be_possible_in_its_turn(self):
        chance = random.Random(162)
        left_out = 0
        for net, standing, events in some_scripts(100, 163):
            for _ in range(5):
                other = list(events)
                if other:
                    other.pop(chance.randrange(len(other)))
                self.assertIs(is_script(net, standing, other), plain_wire.is_script(net, standing, other))
                left_out += not is_script(net, standing, other)
        self.assertGreater(left_out, 20)

    def test_at_the_beginning(self):
        self.assertEqual(state_after(PATH, [1, 2], []), ([0, 0, 0], [], [None] * 4, [[]] * 4))
        self.assertEqual(state_after((1, []), [], []), ([0], [], [], []))
        self.assertEqual(believing((3, [(0, 1, 1)]), [1], []), [2])
        self.assertIsNone(believed(TWO, HELD, [], 0, 1))
        self.assertEqual(meant(PATH, [1, 2], []), [1, 2])

    def test_no_news_is_no_key(self):
        """A house has to have heard of each of its roads, and one without roads need not."""
        self.assertFalse(is_script(TWO, [1], [("work", 1)]))
        self.assertTrue(is_script((2, []), [], [("work", 1), ("work", 1), ("rest", 1)]))
        self.assertFalse(is_script((2, []), [], [("rest", 1), ("work", 1)]))
        self.assertFalse(is_script(PATH, [1, 0], [("send", 0, 1), ("bring", 0, 1), ("work", 1)]))
        self.assertTrue(is_script(PATH, [1, 0], [("send", 0, 1), ("bring", 0, 1), ("send", 2, 1), ("bring", 2, 1),
                                                 ("work", 1)]))

    def test_who_rests_or_falls_goes_on_to_send_and_to_hear(self):
        events = [("rest", 1), ("fall", 1), ("send", 0, 1), ("bring", 0, 1), ("send", 1, 0), ("bring", 1, 0)]
        self.assertEqual(state_after(TWO, HELD, events), ([0, 0], [1], [0, 0], [[], []]))
        self.assertEqual(believed(TWO, HELD, events, 0, 1), 1)
        self.assertEqual(believing(TWO, HELD, events), [])
        self.assertFalse(is_event(TWO, HELD, events, ("rest", 1)))
        self.assertTrue(is_event(TWO, HELD, events, ("rest", 0)))
        self.assertEqual(state_after(TWO, HELD, events + [("fall", 0)]), ([0, 0], [1], [0, None], [[], []]))

    def test_places_on_a_line(self):
        events = [("send", 0, 1), ("bring", 0, 1), ("work", 1), ("send", 1, 0), ("bring", 1, 0), ("send", 0, 1),
                  ("work", 0), ("send", 0, 1)]
        self.assertEqual(state_after(TWO, HELD, events)[3], [[0, 1], []])
        for event, line in [(("lose", 0, 1, 0), [1]), (("lose", 0, 1, 1), [0]), (("double", 0, 1, 0), [0, 0, 1]),
                            (("double", 0, 1, 1), [0, 1, 1]), (("bring", 0, 1), [1])]:
            self.assertEqual(state_after(TWO, HELD, events + [event])[3], [line, []])
        for event in [("lose", 0, 1, 2), ("double", 0, 1, 2), ("lose", 0, 1, -1), ("double", 0, 1, True),
                      ("lose", 1, 0, 0), ("bring", 1, 0)]:
            self.assertFalse(is_event(TWO, HELD, events, event))

    def test_other_values_are_no_events_and_no_scripts(self):
        odd = [("work", True), ("work", 1, 1), ("work",), ["work", 1], ("fall", False), ("rest", 2), ("rest", -1),
               ("send", 0, True), ("send", False, 1), ("send", 0, 0), ("send", 0, 2), ("send", 0, 1, 0), ("send", 0),
               ("send", [0], 1), ("fall", [0]), ("bring", None, 1), ("lose", 0, 1), ("lose", 0, 1, None), ("",), (),
               ("wake", 0), (("work", 0),), (["work"], 0), ("fall", 0, 1), ("fall", "0")]
        for value in any_values() + odd + [[event] for event in odd] + [(("fall", 0),), [("fall", 0), None]]:
            right = repr(value) in ("('send', 0, 1)", "('fall', 0)", "('rest', 1)")
            self.assertIs(is_event(TWO, HELD, [], value), right, value)
            right = repr(value) in ("[]", "[('fall', 0)]", "[('send', 0, 1)]", "[('send', 0, 1), ('bring', 0, 1)]",
                                    "[('send', 0, 1), ('double', 0, 1, 0)]")
            self.assertIs(is_script(TWO, HELD, value), right, value)
        for event in odd:
            with self.assertRaises(InvalidScript):
                state_after(TWO, HELD, [("fall", 0), event])

    def test_at_the_limits(self):
        chance = random.Random(164)
        net, standing = complete(12, 9), [(7 * at) % 8 + 1 for at in range(66)]
        events = random_script(chance, net, standing, 200)
        wire = wire_behind(net, standing, events)
        self.assertEqual(state_after(net, standing, events), wire.state())
        heavy = [("send", 0, 1)] + [("double", 0, 1, place) for place in range(29)] + [("bring", 0, 1)] * 30
        self.assertEqual(state_after(net, standing, heavy)[2][0], 0)
        self.assertEqual(state_after(net, standing, heavy[:30])[3][0], [0] * 30)
        beyond = [("send", 0, 1)] * 500
        self.assertEqual(state_after(TWO, HELD, beyond)[3], [[0] * 500, []])


class Beliefs(unittest.TestCase):
    def test_no_house_ever_works_without_a_key(self):
        for net, standing, events in some_scripts(200, 165):
            run = []
            for at in range(len(events) + 1):
                here = meant(net, standing, events[:at])
                self.assertEqual(here, plain.behind(net, standing, run))
                self.assertTrue(all(0 <= keys <= many for keys, (_, _, many) in zip(here, net[1])))
                if at < len(events) and events[at][0] == "work":
                    self.assertTrue(plain.can_work(net, here, events[at][1]))
                    run.append(events[at][1])
            self.assertTrue(plain.is_run(net, standing, run))
            self.assertEqual(run_of(events), run)

    def test_never_more_than_lies_there(self):
        for net, standing, events in some_scripts(200, 166):
            table = plain.key_table(net, meant(net, standing, events))
            for (u, v), keys in table.items():
                belief = believed(net, standing, events, u, v)
                self.assertTrue(belief is None or 0 <= belief <= keys)
            for low, high, many in net[1]:
                if many == 1:
                    self.assertFalse({low, high} <= set(believing(net, standing, events)))

    def test_behind_a_flushing_just_what_lies_there(self):
        for net, standing, events in some_scripts(200, 167):
            here = meant(net, standing, events)
            script = flushed(net, standing, events)
            wire = wire_behind(net, standing, events)
            self.assertEqual(script, events + wire.flush())
            self.assertTrue(is_script(net, standing, script))
            self.assertEqual(meant(net, standing, script), here)
            for (u, v), keys in plain.key_table(net, here).items():
                self.assertEqual(believed(net, standing, script, u, v), keys)
            self.assertEqual(believing(net, standing, script), [house for house in range(net[0])
                                                                if house not in wire.resting
                                                                and plain.can_work(net, here, house)])
            self.assertEqual(state_after(net, standing, script)[3], [[] for _ in wire.lines])

    def test_flushings_of_nothing(self):
        self.assertEqual(flushed((1, []), [], []), [])
        self.assertEqual(flushed((3, []), [], [("work", 2)]), [("work", 2)])
        self.assertEqual(flushed(TWO, HELD, []), [("send", 0, 1), ("bring", 0, 1), ("send", 1, 0), ("bring", 1, 0)])


class Left(unittest.TestCase):
    def test_counts_of_what_is_meant(self):
        for net, standing, events in some_scripts(200, 168):
            wire = wire_behind(net, standing, events)
            self.assertEqual(left_counts(net, standing, events), counts(net, wire.meant(), wire.resting))
            ends = wire.resting + plain.stuck_houses(net, standing)
            self.assertEqual(left_counts(net, standing, events),
                             [plain.least_length(net, wire.meant(), ends, house) for house in range(net[0])])

    def test_works_and_left_counts_together(self):
        for net, standing, events in some_scripts(120, 169):
            sums = []
            for at in range(len(events) + 1):
                works = state_after(net, standing, events[:at])[0]
                left = left_counts(net, standing, events[:at])
                sums.append([None if more is None else many + more for many, more in zip(works, left)])
            for at, event in enumerate(events):
                if event[0] != "rest":
                    self.assertEqual(sums[at], sums[at + 1])
                for most, many in zip(sums[at], works):
                    self.assertTrue(most is None or many <= most)

    def plain_gone_on(self, net, standing, events, picks):
        wire = wire_behind(net, standing, events)
        script = events + wire.flush()
        works = 0
        while wire.believing():
            ready = wire.believing()
            house = ready[(picks[works] if works < len(picks) else 0) % len(ready)]
            works += 1
            wire.do(("work", house))
            script += [("work", house)] + wire.flush()
        return script

    def test_gone_on(self):
        chance = random.Random(170)
        ended = 0
        for net, standing, events in some_scripts(250, 171):
            picks = [chance.randrange(10) for _ in range(chance.randint(0, 12))]
            script = gone_on(net, standing, events, picks)
            left = left_counts(net, standing, events)
            if None in left:
                self.assertIsNone(script)
                continue
            ended += 1
            self.assertEqual(script, self.plain_gone_on(net, standing, events, picks))
            self.assertTrue(is_script(net, standing, script))
            wire, later = wire_behind(net, standing, events), wire_behind(net, standing, script)
            self.assertEqual(later.works, [one + two for one, two in zip(wire.works, left)])
            self.assertEqual(later.meant(), last_standing(net, wire.meant(), wire.resting))
            self.assertEqual(believing(net, standing, script), [])
        self.assertGreater(ended, 40)

    def test_picks_tell_who_works(self):
        star = (4, [(0, 3, 1), (1, 3, 1), (2, 3, 1)])
        events = [("rest", 3)]
        for picks, right in [([], [0, 1, 2]), ([1], [1, 0, 2]), ([2, 1], [2, 1, 0]), ([5, 3, 7], [2, 1, 0]),
                             ([0, 1, 10 ** 29], [0, 2, 1])]:
            self.assertEqual(run_of(gone_on(star, [0, 0, 0], events, picks)), right)
        self.assertEqual(run_of(gone_on(star, [1, 1, 1], events, [2])), [])

    def test_without_end_and_with_stuck_rings(self):
        self.assertIsNone(gone_on((2, []), [], [("rest", 0)], []))
        self.assertIsNone(gone_on(PATH, [1, 0], [], []))
        self.assertEqual(run_of(gone_on(TAIL, [0, 1, 0, 1], [], [])), [3])
        self.assertEqual(left_counts(TAIL, [0, 1, 0, 1], []), [0, 0, 0, 1])
        self.assertIsNone(gone_on((5, TAIL[1]), [0, 1, 0, 1], [], []))
        self.assertEqual(left_counts((5, TAIL[1]), [0, 1, 0, 1], []), [0, 0, 0, 1, None])
        self.assertEqual(gone_on((1, []), [], [("rest", 0)], []), [("rest", 0)])
        self.assertEqual(left_counts((1, []), [], []), [None])

    def test_at_the_limits(self):
        chance = random.Random(172)
        row = (12, [(at, at + 1, 9) for at in range(11)])
        script = gone_on(row, [9] * 11, [("rest", 0)], [5, 3])
        self.assertEqual([run_of(script).count(house) for house in range(12)], [9 * at for at in range(12)])
        net, standing = complete(12, 9), [(7 * at) % 8 + 1 for at in range(66)]
        events = random_script(chance, net, standing, 199, WORDS[:-1]) + [("rest", 4)]
        script = gone_on(net, standing, events, [1] * 50)
        works = state_after(net, standing, events)[0]
        self.assertEqual([run_of(script).count(house) for house in range(12)],
                         [one + two for one, two in zip(works, left_counts(net, standing, events))])


class Errors(unittest.TestCase):
    def test_scripts(self):
        calls = [state_after, believing, meant, flushed, left_counts,
                 lambda net, standing, events: is_event(net, standing, events, ("fall", 0)),
                 lambda net, standing, events: believed(net, standing, events, None, None),
                 lambda net, standing, events: gone_on(net, standing, events, None)]
        for wrong in (None, (), (("fall", 0),), [("work", 1)], [("fall", 0), ("bring", 0, 1)], "fall", {}, [["fall", 0]],
                      [("rest", 0), ("rest", 0)], [("send", 0, 2)], [("fall", True)], [None], [()]):
            for call in calls:
                with self.assertRaises(InvalidScript) as caught:
                    call(TWO, HELD, wrong)
                self.assertIs(caught.exception.value, wrong)
                with self.assertRaises(InvalidStanding):
                    call(TWO, [2], wrong)

    def test_houses_and_picks(self):
        for u, v, wrong in [(3, None, 3), (True, 0, True), (0, 2, 2), (0, 0, 0), (0, True, True), (None, 1, None)]:
            with self.assertRaises(InvalidHouse) as caught:
                believed(PATH, [1, 0], [], u, v)
            self.assertIs(caught.exception.value, wrong)
        for wrong in (None, (), (1,), [-1], [True], ["1"], [None], 3, {0: 1}):
            with self.assertRaises(InvalidNumber) as caught:
                gone_on(PATH, [1, 0], [], wrong)
            self.assertIs(caught.exception.value, wrong)

    def test_run_of(self):
        self.assertEqual(run_of([]), [])
        self.assertEqual(run_of([("fall",), ("work", 7), ("", None), ("works", -1), ("work", 10 ** 29)]), [7, 10 ** 29])
        for wrong in (None, (), "work", [None], [()], [["work", 0]], [(0, 1)], [("work",)], [("work", -1)],
                      [("work", True)], [("work", 0, 0)], [("work", None)], [("work", [0])], [(None, "work")],
                      [("fall", 0), ("work", "0")], (("work", 0),), {}):
            with self.assertRaises(InvalidScript) as caught:
                run_of(wrong)
            self.assertIs(caught.exception.value, wrong)


if __name__ == "__main__":
    unittest.main()
