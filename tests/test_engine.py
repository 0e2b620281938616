"""[72] to [75]: whole runs over the wire."""

import itertools
import random
import unittest

from keyroads.beats import starts
from keyroads.counts import counts, last_standing
from keyroads.engine import (counts_without, goes_without, is_quiet, round_behind, rounds_to_quiet, rounds_without,
                             script_for, with_rounds)
from keyroads.errors import InvalidHouses, InvalidNumber, InvalidRun, InvalidScript, InvalidStanding
from keyroads.wire import is_script, left_counts, meant, run_of, state_after
from tests import plain, plain_wire
from tests.plain import PATH, RING, TAIL, complete
from tests.plain_wire import PlainWire, goes_through, random_events, random_script, some_scripts, wire_behind

TWO = (2, [(0, 1, 1)])
SCRIPT = [("send", 0, 1), ("bring", 0, 1), ("work", 1)]


def beats_of(net, standing, resting, many):
    """Who works at each of so many beats, if all work at once that can and do not rest."""
    found = []
    for _ in range(many):
        ready = [house for house in range(net[0]) if house not in resting and plain.can_work(net, standing, house)]
        for house in ready:
            standing = plain.work(net, standing, house)
        found.append(ready)
    return found


def plain_round(wire, dead=()):
    """Go a wire on by a round; returns its events."""
    events = []
    for u, v in sorted(wire.lines):
        if (u, v) not in dead:
            events.append(("send", u, v))
            wire.do(events[-1])
            while wire.lines[u, v]:
                events.append(("bring", u, v))
                wire.do(events[-1])
    works = [("work", house) for house in wire.believing()]
    for event in works:
        wire.do(event)
    return events + works


def plain_quiet(wire):
    """Whether no letter is on the way, all neighbours' numbers are held, and nobody believes that it can work."""
    return (not any(wire.lines.values()) and wire.believing() == []
            and all(wire.heard[u, v] == wire.works[u] for u, v in wire.heard))


def works_in(events, houses):
    """How often each house works in events."""
    run = [event[1] for event in events if event[0] == "work"]
    return [run.count(house) for house in range(houses)]


class Examples(unittest.TestCase):
    def test_of_the_document(self):
        path = (3, [(0, 1, 1), (1, 2, 1)])
        self.assertEqual([script_for(TWO, [1], [1]) == SCRIPT, round_behind(TWO, [1], SCRIPT),
                          with_rounds(TWO, [1], [], 1)[-1]],
                         [True, [("send", 0, 1), ("bring", 0, 1), ("send", 1, 0), ("bring", 1, 0), ("work", 0)],
                          ("work", 1)])
        self.assertEqual([is_quiet(TWO, [1], SCRIPT), rounds_to_quiet(TWO, [1], SCRIPT),
                          rounds_to_quiet(TWO, [1], SCRIPT + [("rest", 1)]),
                          counts_without(path, [0, 0], [], [(1, 2)])],
                         [False, None, 2, [2, 1, 0]])
        self.assertEqual([goes_without(TWO, [1], SCRIPT, [(0, 1)]), goes_without(TWO, [1], SCRIPT, [(1, 0)]),
                          len(rounds_without(path, [0, 0], [], [(1, 2)], 1))],
                         [False, True, 7])


class Runs(unittest.TestCase):
    def test_scripts_for_all_runs(self):
        for net, standing in plain.some_cases(80, 241):
            for run in plain.runs_up_to(net, standing, 4):
                right = []
                for v in run:
                    for u in plain.near(net, v):
                        right += [("send", u, v), ("bring", u, v)]
                    right.append(("work", v))
                script = script_for(net, standing, run)
                self.assertEqual(script, right)
                self.assertTrue(plain_wire.is_script(net, standing, script))
                self.assertEqual(run_of(script), run)
        self.assertEqual(script_for((1, []), [], [0, 0]), [("work", 0), ("work", 0)])
        self.assertEqual(script_for(PATH, [1, 0], []), [])

    def test_wrong_runs(self):
        for wrong in (None, (), [0], [1, 1, 1], [True], [3], "1", [[1]], {}):
            with self.assertRaises(InvalidRun) as caught:
                script_for(PATH, [1, 0], wrong)
            self.assertIs(caught.exception.value, wrong)

    def test_at_the_limits(self):
        net, standing = complete(12, 9), [(7 * at) % 8 + 1 for at in range(66)]
        run = [house for at in range(40) for house in beats_of(net, standing, [], 41)[at]][:60]
        script = script_for(net, standing, run)
        self.assertTrue(is_script(net, standing, script))
        self.assertEqual(run_of(script), run)


class Rounds(unittest.TestCase):
    def test_behind_scripts(self):
        for net, standing, events in some_scripts(200, 242):
            wire = wire_behind(net, standing, events)
            here, resting = wire.meant(), wire.resting
            right = plain_round(wire)
            found = round_behind(net, standing, events)
            self.assertEqual(found, right)
            self.assertTrue(is_script(net, standing, events + found))
            # Just those work that do not rest and can work in the meant standing.
            self.assertEqual([run_of(found)], beats_of(net, here, resting, 1))
            self.assertEqual(with_rounds(net, standing, events, 1), events + found)
            self.assertEqual(with_rounds(net, standing, events, 0), events)

    def test_rounds_are_beats(self):
        chance = random.Random(243)
        for net, standing, events in some_scripts(100, 244):
            many = chance.randint(2, 7)
            wire = wire_behind(net, standing, events)
            beats = beats_of(net, wire.meant(), wire.resting, many)
            script, right = with_rounds(net, standing, events, many), list(events)
            for beat in beats:
                found = plain_round(wire)
                right += found
                self.assertEqual(run_of(found), beat)
            self.assertEqual(script, right)
            if not wire.resting:
                self.assertEqual(starts(net, meant(net, standing, events), [1] * net[0], many), beats)

    def test_late_costs_time_and_never_turns(self):
        """Rounds with anything between them: no house that does not rest in the end is behind so many beats."""
        chance = random.Random(245)
        ahead = 0
        for net, standing in plain.some_cases(150, 246):
            wire, events, many = PlainWire(net, standing), [], chance.randint(1, 5)
            for _ in range(many):
                events += random_events(chance, wire, chance.randint(0, 8))
                events += plain_round(wire)
            events += random_events(chance, wire, 5)
            self.assertTrue(is_script(net, standing, events))
            least = works_in([("work", house) for beat in beats_of(net, standing, wire.resting, many)
                              for house in beat], net[0])
            for house in range(net[0]):
                if house not in wire.resting:
                    self.assertGreaterEqual(wire.works[house], least[house])
                    ahead += wire.works[house] > least[house]
        self.assertGreater(ahead, 10)

    def test_at_the_limits(self):
        chance = random.Random(247)
        net, standing = complete(12, 9), [(7 * at) % 8 + 1 for at in range(66)]
        events = random_script(chance, net, standing, 200)
        script = with_rounds(net, standing, events, 60)
        wire = wire_behind(net, standing, events)
        beats = beats_of(net, wire.meant(), wire.resting, 60)
        self.assertEqual(run_of(script), run_of(events) + [house for beat in beats for house in beat])
        row = (12, [(at, at + 1, 9) for at in range(11)])
        self.assertEqual(len(run_of(with_rounds(row, [4] * 11, [], 60))), sum(map(len, beats_of(row, [4] * 11, [], 60))))

    def test_of_nothing(self):
        self.assertEqual(round_behind((1, []), [], []), [("work", 0)])
        self.assertEqual(round_behind((2, []), [], [("rest", 0)]), [("work", 1)])
        self.assertEqual(with_rounds((2, []), [], [], 2), [("work", 0), ("work", 1)] * 2)
        self.assertEqual(run_of(with_rounds(TAIL, [0, 1, 0, 1], [], 9)), [3])


class Quiet(unittest.TestCase):
    def test_behind_scripts_and_rounds(self):
        seen = {True: 0, False: 0}
        for net, standing, events in some_scripts(250, 248):
            wire = wire_behind(net, standing, events)
            self.assertIs(is_quiet(net, standing, events), plain_quiet(wire))
            left = left_counts(net, standing, events)
            told = rounds_to_quiet(net, standing, events)
            if None in left:
                self.assertIsNone(told)
                for _ in range(6):
                    plain_round(wire)
                    self.assertFalse(plain_quiet(wire))
                continue
            rounds = 0
            while not plain_quiet(wire):
                rounds += 1
                plain_round(wire)
            self.assertEqual(told, rounds)
            self.assertTrue(rounds <= sum(left) + 1)
            script = with_rounds(net, standing, events, rounds)
            for at in range(max(0, rounds - 2), rounds + 2):
                quiet = is_quiet(net, standing, with_rounds(net, standing, events, at))
                self.assertIs(quiet, at >= rounds)
            self.judge_quiet(net, standing, script)
            seen[rounds == 0] += 1
        self.assertGreater(seen[False], 50)

    def judge_quiet(self, net, standing, script):
        """How often all have worked behind a quiet script."""
        rests = [at for at, event in enumerate(script) if event[0] == "rest"]
        works = works_in(script, net[0])
        beginning = script[:rests[-1] + 1] if rests else []
        wire = wire_behind(net, standing, beginning)
        self.assertEqual(works, [one + two for one, two in zip(wire.works, left_counts(net, standing, beginning))])
        if "work" not in [event[0] for event in beginning]:
            self.assertEqual(works, counts(net, standing, wire.resting))
            self.assertEqual(meant(net, standing, script), last_standing(net, standing, wire.resting))

    def test_by_every_way_to_quiet(self):
        """Some houses rest at first; then anything goes on until it is quiet by chance or by rounds."""
        chance = random.Random(249)
        quiet = 0
        for net, standing in plain.some_cases(120, 250):
            resting = sorted(chance.sample(range(net[0]), chance.randint(1, net[0])))
            if None in counts(net, standing, resting):
                continue
            wire, events = PlainWire(net, standing), [("rest", house) for house in resting]
            goes_through(wire, events)
            events += random_events(chance, wire, chance.randint(0, 60), plain_wire.WORDS[:-1])
            for _ in range(100):
                if plain_quiet(wire):
                    break
                events += random_events(chance, wire, 3, ("lose", "double", "fall")) + plain_round(wire)
            quiet += is_quiet(net, standing, events)
            self.judge_quiet(net, standing, events)
            self.assertEqual(works_in(events, net[0]), counts(net, standing, resting))
        self.assertGreater(quiet, 20)

    def test_what_is_not_quiet(self):
        quiet = with_rounds(TWO, [1], [("rest", 0), ("rest", 1)], 1)
        self.assertTrue(is_quiet(TWO, [1], quiet))
        self.assertEqual(rounds_to_quiet(TWO, [1], quiet), 0)
        for more in ([("send", 0, 1)], [("fall", 1)]):
            self.assertFalse(is_quiet(TWO, [1], quiet + more))
            self.assertEqual(rounds_to_quiet(TWO, [1], quiet + more), 1)
        self.assertTrue(is_quiet(TWO, [1], quiet + [("fall", 1), ("send", 0, 1), ("bring", 0, 1)]))
        self.assertFalse(is_quiet(TWO, [1], quiet[:2]))
        self.assertFalse(is_quiet(TWO, [1], with_rounds(TWO, [1], [], 1)))
        # Who works in the last round is not heard of yet.
        self.assertFalse(is_quiet(TWO, [1], with_rounds(TWO, [1], [("rest", 0)], 1)))
        self.assertTrue(is_quiet(TWO, [1], with_rounds(TWO, [1], [("rest", 0)], 2)))

    def test_one_house_stuck_rings_and_several_parts(self):
        self.assertFalse(is_quiet((1, []), [], []))
        self.assertIsNone(rounds_to_quiet((1, []), [], []))
        self.assertTrue(is_quiet((1, []), [], [("rest", 0)]))
        self.assertEqual(rounds_to_quiet((1, []), [], [("work", 0), ("rest", 0)]), 0)
        self.assertEqual(rounds_to_quiet(RING, [0, 1, 0], []), 1)
        self.assertEqual(rounds_to_quiet(TAIL, [0, 1, 0, 1], []), 2)
        parts = (5, [(0, 1, 1), (0, 2, 1), (1, 2, 1), (3, 4, 2)])
        self.assertIsNone(rounds_to_quiet(parts, [0, 1, 0, 1], []))
        self.assertEqual(rounds_to_quiet(parts, [0, 1, 0, 1], [("rest", 3)]), 2)

    def test_at_the_limits(self):
        row = (12, [(at, at + 1, 9) for at in range(11)])
        self.assertEqual(rounds_to_quiet(row, [9] * 11, [("rest", 0)]), 1 + sum(
            beat != [] for beat in beats_of(row, [9] * 11, [0], 700)))
        net, standing = complete(12, 9), [(7 * at) % 8 + 1 for at in range(66)]
        many = rounds_to_quiet(net, standing, [("rest", 5)])
        self.assertTrue(is_quiet(net, standing, with_rounds(net, standing, [("rest", 5)], many)))
        self.assertFalse(is_quiet(net, standing, with_rounds(net, standing, [("rest", 5)], many - 1)))


class Dead(unittest.TestCase):
    def cases(self, seed):
        """Nets, standings, resting houses and dead directions."""
        chance = random.Random(seed)
        for net, standing in plain.some_cases(120, seed):
            pairs = sorted(plain.key_table(net, standing))
            dead = sorted(chance.sample(pairs, chance.randint(0, min(len(pairs), 3))))
            yield chance, net, standing, [house for house in range(net[0]) if chance.random() < 0.3], dead

    def test_scripts_without_bringings(self):
        for chance, net, standing, _, dead in self.cases(251):
            wire, events = PlainWire(net, standing), []
            for _ in range(50):
                choice = [event for event in wire.possible() if event[0] != "bring" or event[1:] not in dead]
                events.append(chance.choice([event for event in choice if event[0] in ("work", "bring")] * 9 + choice))
                wire.do(events[-1])
            self.assertIs(goes_without(net, standing, events, dead), True)
            for _, v in dead:
                self.assertEqual(wire.works[v], 0)
            other = random_script(chance, net, standing, 40)
            self.assertIs(goes_without(net, standing, other, dead),
                          not [event for event in other if event[0] == "bring" and event[1:] in dead])

    def test_as_if_these_rested(self):
        for _, net, standing, resting, dead in self.cases(252):
            held = sorted({*resting, *[v for _, v in dead]})
            right = counts(net, standing, held)
            self.assertEqual(counts_without(net, standing, resting, dead), right)
            ends = held + plain.stuck_houses(net, standing)
            self.assertEqual(right, [plain.least_length(net, standing, ends, house) for house in range(net[0])])
            beats = beats_of(net, standing, held, 60)
            works = works_in([("work", house) for beat in beats for house in beat], net[0])
            for many, most in zip(works, right):
                self.assertTrue(many == most if most is not None else many > 10)

    def test_rounds(self):
        for chance, net, standing, resting, dead in self.cases(253):
            many = chance.randint(0, 6)
            wire, right = PlainWire(net, standing), [("rest", house) for house in resting]
            goes_through(wire, right)
            for _ in range(many):
                right += plain_round(wire, dead)
            script = rounds_without(net, standing, resting, dead, many)
            self.assertEqual(script, right)
            self.assertTrue(is_script(net, standing, script))
            self.assertTrue(goes_without(net, standing, script, dead))
            held = {*resting, *[v for _, v in dead]}
            self.assertEqual(run_of(script), [house for beat in beats_of(net, standing, held, many) for house in beat])
            if not dead:
                rests = [("rest", house) for house in resting]
                self.assertEqual(script, with_rounds(net, standing, rests, many))

    def test_at_the_limits(self):
        net, standing = complete(12, 9), [(7 * at) % 8 + 1 for at in range(66)]
        dead = [(0, 5), (3, 4), (11, 4)]
        script = rounds_without(net, standing, [2], dead, 60)
        self.assertEqual(run_of(script), [house for beat in beats_of(net, standing, [2, 4, 5], 60) for house in beat])
        told = counts_without(net, standing, [2], dead)
        self.assertEqual(told, counts(net, standing, [2, 4, 5]))
        self.assertEqual(works_in(script, 12), told)
        every = sorted(plain.key_table(net, standing))
        self.assertEqual(counts_without(net, standing, [], every), [0] * 12)
        self.assertEqual(rounds_without(net, standing, [], every, 60), [])

    def test_nothing_dead(self):
        self.assertTrue(goes_without(TWO, [1], SCRIPT, []))
        self.assertEqual(counts_without((1, []), [], [], []), [None])
        self.assertEqual(rounds_without((1, []), [], [0], [], 3), [("rest", 0)])
        self.assertEqual(state_after(TWO, [1], rounds_without(TWO, [1], [], [(0, 1)], 2))[2], [None, 0])


class Errors(unittest.TestCase):
    def test_scripts(self):
        calls = [round_behind, is_quiet, rounds_to_quiet,
                 lambda net, standing, events: with_rounds(net, standing, events, None),
                 lambda net, standing, events: goes_without(net, standing, events, None)]
        for call, wrong in itertools.product(calls, (None, (), [("work", 1)], [("bring", 0, 1)], [("fall", True)],
                                                     [None], "", {})):
            with self.assertRaises(InvalidScript) as caught:
                call(TWO, [1], wrong)
            self.assertIs(caught.exception.value, wrong)
            with self.assertRaises(InvalidStanding):
                call(TWO, [2], wrong)

    def test_dead_directions(self):
        for wrong in [None, (), ((0, 1),), [[0, 1]], [(0, 1), (0, 1)], [(1, 0), (0, 1)], [(0, 2)], [(0, 0)],
                      [(0, True)], [(0, 1, 1)], ["01"], {(0, 1): 1}, 0]:
            for call in (lambda dead: goes_without(PATH, [1, 0], [], dead),
                         lambda dead: counts_without(PATH, [1, 0], [1], dead),
                         lambda dead: rounds_without(PATH, [1, 0], [1], dead, None)):
                with self.assertRaises(InvalidHouses) as caught:
                    call(wrong)
                self.assertIs(caught.exception.value, wrong)

    def test_resting_ahead_of_dead(self):
        for wrong in (None, [1, 0], [0, 0], [3], [True], (0,), "0"):
            for call in (lambda resting: counts_without(PATH, [1, 0], resting, None),
                         lambda resting: rounds_without(PATH, [1, 0], resting, None, None)):
                with self.assertRaises(InvalidHouses) as caught:
                    call(wrong)
                self.assertIs(caught.exception.value, wrong)

    def test_numbers_of_rounds(self):
        for wrong in (-1, None, True, "1", [1]):
            for call in (lambda many: with_rounds(TWO, [1], [], many),
                         lambda many: rounds_without(TWO, [1], [], [], many)):
                with self.assertRaises(InvalidNumber) as caught:
                    call(wrong)
                self.assertIs(caught.exception.value, wrong)


if __name__ == "__main__":
    unittest.main()
