"""[60] to [62]: silence."""

import itertools
import random
import unittest

from keyroads.errors import InvalidRun, InvalidScript, InvalidStanding, InvalidWay
from keyroads.needed import needed
from keyroads.silence import are_enough, is_quiet_script, is_unsafe, quiet_script_of, quiet_state, unsafe_script
from keyroads.wire import is_script, run_of, state_after
from tests import plain, plain_wire
from tests.plain import PATH, RING, TAIL, complete
from tests.plain_wire import QuietWire, goes_through, random_events, some_scripts
from tests.values import any_values

RINGED, FEW = [1, 1, 1], [(0, 2), (1, 0), (2, 1)]


def free_cases(many, seed, houses=9):
    """Nets and standings without stuck rings."""
    cases = [case for case in plain.some_cases() if case[0][0] <= houses and plain.is_free(*case)]
    return random.Random(seed).sample(cases, min(many, len(cases)))


def works_without_key(net, standing, asked, most):
    """Whether some house works without a key, up to so many works of each, if all hear at once what they ask.

    What a house believes is never more than lies there as long as all works have keys, so
    who hears all at once can work whenever anybody can who hears late.
    """
    table = plain.key_table(net, standing)
    found = {(0,) * net[0]: True}
    waiting = list(found)
    for works in waiting:
        lying = {(u, v): keys + works[u] - works[v] for (u, v), keys in table.items()}
        for house in range(net[0]):
            if works[house] < most and all(lying[u, v] >= 1 for u, v in asked if v == house):
                if not all(lying[u, house] >= 1 for u in plain.near(net, house)):
                    return True
                later = works[:house] + (works[house] + 1,) + works[house + 1:]
                if later not in found:
                    found[later] = True
                    waiting.append(later)
    return False


def lacks_key(net, standing, works, house):
    """Whether a house lacks a key of some road, by the works of all."""
    table = plain.key_table(net, standing)
    return any(table[u, house] + works[u] - works[house] < 1 for u in plain.near(net, house))


def plain_unsafe(net, standing, asked, value):
    """Whether a value is an unsafe quiet script, gone through event by event."""
    if not goes_through(QuietWire(net, standing, asked), value) or value == [] or value[-1][0] != "work":
        return False
    works, lacking = [0] * net[0], []
    for event in value:
        if event[0] == "work":
            lacking.append(lacks_key(net, standing, works, event[1]))
            works[event[1]] += 1
    return lacking[-1] and not any(lacking[:-1])


def asked_lists(chance, net, many):
    """Ascending lists of directions: none, all, and so many others."""
    pairs = sorted(plain.key_table(net, [0] * len(net[1])))
    return [[], pairs] + [[pair for pair in pairs if chance.random() < 0.6] for _ in range(many)]


class Examples(unittest.TestCase):
    def test_of_the_document(self):
        self.assertEqual([are_enough(RING, RINGED, FEW), are_enough(RING, RINGED, [(0, 2), (1, 0)]),
                          unsafe_script(RING, RINGED, FEW)],
                         [True, False, None])
        told = quiet_script_of(RING, RINGED, FEW, [2, 1, 0, 2])
        self.assertEqual([run_of(told), is_quiet_script(RING, RINGED, FEW, told),
                          quiet_state(RING, RINGED, FEW, told)[0],
                          is_quiet_script(RING, RINGED, FEW, [("send", 0, 1)])],
                         [[2, 1, 0, 2], True, [1, 1, 2], False])
        self.assertEqual([is_unsafe(RING, RINGED, [(0, 2), (1, 0)], [("work", 1)]),
                          is_unsafe(RING, RINGED, FEW, [("work", 1)]),
                          is_unsafe(RING, RINGED, [], [("work", 2), ("work", 2)]),
                          run_of(unsafe_script(RING, RINGED, [(0, 2), (1, 0)]))[-1]],
                         [True, False, True, 1])


class QuietScripts(unittest.TestCase):
    def judge(self, net, standing, asked, events):
        """What stands behind the events, and each event that may or may not be the next one."""
        wire = QuietWire(net, standing, asked)
        self.assertTrue(goes_through(wire, events))
        self.assertIs(is_quiet_script(net, standing, asked, events), True)
        self.assertEqual(quiet_state(net, standing, asked, events), wire.state())
        possible = wire.possible()
        for event in tuples_like_events(net):
            self.assertIs(is_quiet_script(net, standing, asked, events + [event]), event in possible, (events, event))

    def test_all_of_few_events(self):
        for net, standing in [((2, [(0, 1, 1)]), [1]), ((2, [(0, 1, 2)]), [1]), ((3, [(0, 1, 1), (1, 2, 1)]), [1, 0])]:
            for asked in plain.subsets(sorted(plain.key_table(net, standing))):
                scripts = [[]]
                for events in scripts:
                    self.judge(net, standing, asked, events)
                    if len(events) < (2 if net[0] == 2 else 1):
                        wire = QuietWire(net, standing, asked)
                        goes_through(wire, events)
                        scripts.extend(events + [event] for event in wire.possible())

    def test_long_ones_safe_or_not(self):
        chance = random.Random(191)
        for net, standing in free_cases(60, 192) + [(complete(4, 2), [1] * 6)]:
            for asked in asked_lists(chance, net, 2):
                events = random_events(chance, QuietWire(net, standing, asked), 40)
                self.judge(net, standing, asked, events)
                for _ in range(3):
                    other = list(events)
                    if other:
                        other.pop(chance.randrange(len(other)))
                    right = goes_through(QuietWire(net, standing, asked), other)
                    self.assertIs(is_quiet_script(net, standing, asked, other), right)

    def test_all_directions_asked(self):
        for net, standing, events in some_scripts(80, 193):
            if plain.is_free(net, standing):
                asked = sorted(plain.key_table(net, standing))
                self.assertTrue(is_quiet_script(net, standing, asked, events))
                self.assertEqual(quiet_state(net, standing, asked, events), state_after(net, standing, events))
                for event in tuples_like_events(net):
                    self.assertIs(is_quiet_script(net, standing, asked, events + [event]),
                                  is_script(net, standing, events + [event]))

    def test_nothing_asked(self):
        """Then anybody works who does not rest, and no letter goes."""
        events = [("work", 0)] * 3 + [("work", 1), ("fall", 1), ("work", 1), ("rest", 1), ("work", 0)]
        self.assertTrue(is_quiet_script(PATH, [1, 0], [], events))
        self.assertEqual(quiet_state(PATH, [1, 0], [], events), ([4, 2, 0], [1], [None] * 4, [[]] * 4))
        self.assertFalse(is_quiet_script(PATH, [1, 0], [], events + [("work", 1)]))
        self.assertFalse(is_quiet_script(PATH, [1, 0], [], [("send", 0, 1)]))

    def test_what_is_read_wrongly_behind_a_work_without_a_key(self):
        asked = [(0, 1)]
        events = [("work", 0)] * 3 + [("send", 0, 1), ("bring", 0, 1)]
        self.assertEqual(quiet_state((2, [(0, 1, 1)]), [0], asked, events)[2], [1, None])

    def test_one_house_and_none_together(self):
        self.assertTrue(is_quiet_script((1, []), [], [], [("work", 0), ("fall", 0), ("rest", 0)]))
        self.assertEqual(quiet_state((1, []), [], [], [("work", 0)]), ([1], [], [], []))
        self.assertTrue(are_enough((1, []), [], []))
        self.assertIsNone(unsafe_script((3, []), [], []))
        self.assertEqual(quiet_script_of((3, []), [], [], [2, 0, 2]), [("work", 2), ("work", 0), ("work", 2)])

    def test_any_values(self):
        two = (2, [(0, 1, 1)])
        for value in any_values():
            for asked in ([], [(0, 1)], [(0, 1), (1, 0)]):
                self.assertIs(is_quiet_script(two, [1], asked, value),
                              goes_through(QuietWire(two, [1], asked), value), value)
                self.assertIs(is_unsafe(two, [1], asked, value), plain_unsafe(two, [1], asked, value), value)


def tuples_like_events(net):
    """Tuples that look like events of a net, and some that do not."""
    houses = range(-1, net[0] + 1)
    found = [(word, house) for word in ("work", "fall", "rest", "send", "wake") for house in houses]
    found += [(word, u, v) for word in ("send", "bring", "work", "lose") for u in houses for v in houses]
    return found + [(word, u, v, place) for word in ("lose", "double") for u in houses for v in houses
                    for place in (0, 1)]


class Enough(unittest.TestCase):
    def test_each_needed_direction_has_to_be_asked(self):
        chance = random.Random(194)
        for net, standing in free_cases(60, 195):
            right = plain.needed_ones(net, standing)
            self.assertEqual(needed(net, standing), right)
            for asked in asked_lists(chance, net, 10) + [right] + [[pair for pair in right if pair != lacking]
                                                                   for lacking in right]:
                self.assertIs(are_enough(net, standing, asked), all(pair in asked for pair in right))

    def test_unsafe_exactly_if_not_enough(self):
        """Over all lists of directions of small nets, and over all works that houses do by them."""
        seen = {True: 0, False: 0}
        for net, standing in free_cases(40, 196, 3) + [(TAIL, [1, 1, 1, 0]), (TAIL, [0, 0, 1, 1])]:
            pairs = sorted(plain.key_table(net, standing))
            for asked in plain.subsets(pairs) if len(pairs) <= 6 else asked_lists(random.Random(197), net, 60):
                unsafe = works_without_key(net, standing, asked, 4)
                self.assertIs(are_enough(net, standing, asked), not unsafe)
                script = unsafe_script(net, standing, asked)
                self.assertEqual(script is not None, unsafe)
                if unsafe:
                    self.assertTrue(plain_unsafe(net, standing, asked, script))
                    self.assertIs(is_unsafe(net, standing, asked, script), True)
                seen[unsafe] += 1
        self.assertGreater(min(seen.values()), 100)

    def test_safe_behind_every_quiet_script_of_enough(self):
        chance = random.Random(198)
        works = 0
        for net, standing in free_cases(80, 199):
            needed_pairs = plain.needed_ones(net, standing)
            for asked in asked_lists(chance, net, 2):
                asked = sorted({*asked, *needed_pairs})
                for words in (plain_wire.WORDS, ("work", "send", "bring", "fall")):
                    events = random_events(chance, QuietWire(net, standing, asked), 60, words)
                    run = [event[1] for event in events if event[0] == "work"]
                    works += len(run)
                    self.assertTrue(plain.is_run(net, standing, run))
                    self.assertTrue(is_quiet_script(net, standing, asked, events))
                    for at in range(len(events) + 1):
                        self.assertFalse(is_unsafe(net, standing, asked, events[:at]))
        self.assertGreater(works, 500)

    def test_all_runs_and_no_others_by_needed_directions(self):
        for net, standing in free_cases(40, 200) + [(RING, RINGED)]:
            asked = plain.needed_ones(net, standing)
            for run in plain.runs_up_to(net, standing, 4):
                script = quiet_script_of(net, standing, asked, run)
                self.assertEqual([event[1] for event in script if event[0] == "work"], run)
                self.assertEqual({event[0] for event in script} - {"work", "send", "bring"}, set())
                wire = QuietWire(net, standing, asked)
                self.assertTrue(goes_through(wire, script))
                self.assertEqual(wire.works, [run.count(house) for house in range(net[0])])

    def test_all_asked_tells_all_runs(self):
        for net, standing in free_cases(20, 201, 3):
            asked = sorted(plain.key_table(net, standing))
            for run in plain.runs_up_to(net, standing, 4):
                script = quiet_script_of(net, standing, asked, run)
                self.assertTrue(is_script(net, standing, script))
                self.assertEqual(run_of(script), run)

    def test_at_the_limits(self):
        net, standing = complete(12, 9), [(7 * at) % 8 + 1 for at in range(66)]
        right = needed(net, standing)
        every = sorted(plain.key_table(net, standing))
        self.assertTrue(are_enough(net, standing, right) and are_enough(net, standing, every))
        self.assertIsNone(unsafe_script(net, standing, right))
        self.assertIsNone(unsafe_script(net, standing, every))
        for lacking in right[::7]:
            asked = [pair for pair in every if pair != lacking]
            self.assertFalse(are_enough(net, standing, asked))
            script = unsafe_script(net, standing, asked)
            self.assertTrue(plain_unsafe(net, standing, asked, script))
            self.assertTrue(is_unsafe(net, standing, asked, script))
        row = (12, [(at, at + 1, 9) for at in range(11)])
        for asked in ([], [(at, at + 1) for at in range(11)]):
            script = unsafe_script(row, [9] * 11, asked)
            self.assertTrue(plain_unsafe(row, [9] * 11, asked, script))
        chance = random.Random(202)
        events = random_events(chance, QuietWire(net, standing, right), 200)
        self.assertTrue(is_quiet_script(net, standing, right, events))


class Unsafe(unittest.TestCase):
    def test_held_against_all_events(self):
        """Quiet scripts that go on behind unsafe works, beginnings of them, and what is no quiet script."""
        chance = random.Random(203)
        found = {True: 0, False: 0}
        for net, standing in free_cases(80, 204):
            for asked in asked_lists(chance, net, 3)[2:] + [[]]:
                events = random_events(chance, QuietWire(net, standing, asked), 25)
                for at in range(len(events) + 1):
                    for value in (events[:at], events[:at] + [("work", chance.randrange(net[0]))]):
                        right = plain_unsafe(net, standing, asked, value)
                        found[right] += 1
                        self.assertIs(is_unsafe(net, standing, asked, value), right)
        self.assertGreater(min(found.values()), 200)

    def test_the_last_event_and_no_work_ahead(self):
        two = (2, [(0, 1, 1)])
        for value, right in [([("work", 1), ("work", 1)], True), ([("work", 1)], False), ([("work", 0)], True),
                             ([("work", 1), ("work", 1), ("fall", 0)], False), ([], False),
                             ([("work", 0), ("work", 0)], False), ([("work", 1), ("work", 0), ("work", 0)], True),
                             ([("rest", 0), ("work", 0)], False), ([("work", 1), ("fall", 1), ("work", 1)], True),
                             ([("send", 0, 1), ("work", 0)], False), ((("work", 0),), False)]:
            self.assertIs(is_unsafe(two, [1], [], value), right, value)
        self.assertIs(is_unsafe(two, [1], [(0, 1)], [("work", 0)]), True)
        self.assertIs(is_unsafe(two, [1], [(0, 1)], [("work", 1)]), False)
        self.assertIs(is_unsafe(two, [1], [(1, 0)], [("work", 1), ("work", 1)]), True)


class Errors(unittest.TestCase):
    calls = [lambda net, standing, asked: is_quiet_script(net, standing, asked, None),
             lambda net, standing, asked: quiet_state(net, standing, asked, None), are_enough,
             lambda net, standing, asked: quiet_script_of(net, standing, asked, None),
             lambda net, standing, asked: is_unsafe(net, standing, asked, None), unsafe_script]

    def test_stuck_rings_are_refused(self):
        for call, standing in itertools.product(self.calls, ([0, 1, 0], [1, 0, 1])):
            with self.assertRaises(InvalidStanding) as caught:
                call(RING, standing, None)
            self.assertIs(caught.exception.value, standing)

    def test_asked_directions(self):
        for value in [None, (), ((0, 1),), [[0, 1]], [(0, 1), (0, 1)], [(1, 0), (0, 1)], [(0, 3)], [(0, 0)],
                      [(0, True)], [(0, 1, 1)], ["01"], {(0, 1): 1}, 0]:
            for call in self.calls:
                with self.assertRaises(InvalidWay) as caught:
                    call(RING, RINGED, value)
                self.assertIs(caught.exception.value, value)

    def test_not_enough_is_refused_ahead_of_the_run(self):
        for asked in ([], [(0, 2), (1, 0)], [(0, 1), (1, 2), (2, 0)]):
            for run in ([], [2], None):
                with self.assertRaises(InvalidWay) as caught:
                    quiet_script_of(RING, RINGED, asked, run)
                self.assertIs(caught.exception.value, asked)
        for run in (None, (), [0], [2, 2], [2, True], [3], "2", (2,)):
            with self.assertRaises(InvalidRun) as caught:
                quiet_script_of(RING, RINGED, FEW, run)
            self.assertIs(caught.exception.value, run)

    def test_no_quiet_scripts(self):
        for wrong in (None, (), [("send", 0, 1)], [("work", 1)], [("bring", 0, 2)], [("fall", True)], [None], "", {},
                      [("rest", 0), ("rest", 0)], [("send", 0, 2), ("bring", 0, 2), ("bring", 0, 2)]):
            with self.assertRaises(InvalidScript) as caught:
                quiet_state(RING, RINGED, FEW, wrong)
            self.assertIs(caught.exception.value, wrong)


if __name__ == "__main__":
    unittest.main()
