"""[63] to [65]: what a house can know."""

import itertools
import random
import unittest

from keyroads.errors import InvalidHouse, InvalidScript, InvalidWorks
from keyroads.knowing import (alike_script, all_known, can_have_worked, is_alike_script, known, surely_able,
                              surely_there)
from keyroads.wire import believing, meant
from tests import plain, plain_wire
from tests.plain import PATH, RING, TAIL, complete
from tests.plain_wire import random_script, some_scripts, wire_behind
from tests.values import any_values

TWO = (2, [(0, 1, 1)])
DRAWN = [("send", 0, 1), ("bring", 0, 1), ("work", 1), ("send", 1, 0)]


def held_by(wire, house):
    """What a house holds of its neighbours' works."""
    return {u: wire.heard[u, house] for u in plain.near(wire.net, house)}


def fits(table, lists, wire, house, works):
    """Whether some run does these works, and the house has its number and its neighbours at least what it holds."""
    return (tuple(works) in lists and works[house] == wire.works[house]
            and all(number is None or works[u] >= number for u, number in held_by(wire, house).items()))


class Explored:
    """All that scripts of a net lead to for one house, up to so many works of each and two letters on a line.

    Only the lines to this house are told: all others hear at once what they need, for who
    hears late can do no more. What a house holds and how often it worked is its knowledge.
    """

    def __init__(self, net, standing, house, most):
        self.net, self.house, self.most = net, house, most
        self.table, self.others = plain.key_table(net, standing), plain.near(net, house)
        start = ((0,) * net[0], (None,) * len(self.others), ((),) * len(self.others))
        self.ahead = {start: None}
        waiting = [start]
        for state in waiting:
            for events, later in self.steps(state):
                if later not in self.ahead:
                    self.ahead[later] = (state, events)
                    waiting.append(later)

    def steps(self, state):
        works, held, lines = state
        for worker in range(self.net[0]):
            if works[worker] < self.most and self.may_work(works, held, worker):
                near = plain.near(self.net, worker) if worker != self.house else []
                events = [event for u in near for event in (("send", u, worker), ("bring", u, worker))]
                yield events + [("work", worker)], (changed(works, worker, works[worker] + 1), held, lines)
        yield [("fall", self.house)], (works, (None,) * len(held), lines)
        for at, other in enumerate(self.others):
            if len(lines[at]) < 2:
                later = changed(lines, at, lines[at] + (works[other],))
                yield [("send", other, self.house)], (works, held, later)
            if lines[at]:
                yield ([("bring", other, self.house)],
                       (works, changed(held, at, lines[at][0]), changed(lines, at, lines[at][1:])))

    def may_work(self, works, held, worker):
        if worker == self.house:
            numbers = dict(zip(self.others, held))
            return all(numbers[u] is not None and self.table[u, worker] + numbers[u] - works[worker] >= 1
                       for u in self.others)
        return all(self.table[u, worker] + works[u] - works[worker] >= 1 for u in plain.near(self.net, worker))

    def script(self, state):
        """A script that leads to what a state tells."""
        if self.ahead[state] is None:
            return []
        before, events = self.ahead[state]
        return self.script(before) + events

    def by_knowledge(self):
        """For each knowledge, a script that leads to it, and all works behind such ones."""
        found = {}
        for state in self.ahead:
            name = (state[0][self.house], state[1])
            found.setdefault(name, (self.script(state), set()))[1].add(state[0])
        return found


def changed(items, at, item):
    return items[:at] + (item,) + items[at + 1:]


class Examples(unittest.TestCase):
    def test_of_the_document(self):
        self.assertEqual([known(TWO, [1], DRAWN, 1, 0), known(TWO, [1], DRAWN, 0, 1),
                          known(TWO, [1], DRAWN + [("bring", 1, 0)], 0, 1), all_known(TWO, [1], DRAWN, 1)],
                         [(0, 1), (0, 1), (1, 1), [(0, 1), (1, 1)]])
        self.assertEqual([can_have_worked(TWO, [1], DRAWN, 1, [1, 1]), can_have_worked(TWO, [1], DRAWN, 1, [2, 1]),
                          alike_script(TWO, [1], DRAWN, 1, [2, 1]), is_alike_script(TWO, [1], DRAWN, 0, [])],
                         [True, False, None, True])
        self.assertEqual([surely_there(TWO, [1], DRAWN, 1, 1, 0), surely_able(TWO, [1], DRAWN, 1),
                          surely_able(TWO, [1], DRAWN + [("bring", 1, 0)], 0)],
                         [0, [], [0]])
        self.assertEqual([known(TAIL, [0, 1, 0, 1], [], 0, 3), known((3, [(0, 1, 2)]), [2], [], 0, 1),
                          known((3, [(0, 1, 2)]), [2], [], 0, 2)],
                         [(0, 1), (0, 2), (0, None)])


class AllScripts(unittest.TestCase):
    """Over all scripts up to some works, whatever letters are sent, brought and forgotten."""

    cases = [(TWO, [1], 3), (TWO, [0], 3), ((2, [(0, 1, 2)]), [1], 3), ((3, [(0, 1, 1)]), [0], 2),
             ((3, [(0, 1, 1), (1, 2, 1)]), [1, 0], 2), ((3, [(0, 1, 1), (1, 2, 2)]), [0, 1], 2),
             (RING, [1, 1, 1], 2), (RING, [0, 1, 0], 1), (TAIL, [0, 1, 0, 1], 1)]

    def test_what_can_have_been(self):
        for net, standing, most in self.cases:
            for house in range(net[0]):
                for events, right in Explored(net, standing, house, most).by_knowledge().values():
                    self.assertTrue(plain_wire.is_script(net, standing, events))
                    for works in itertools.product(range(most + 1), repeat=net[0]):
                        told = can_have_worked(net, standing, events, house, list(works))
                        self.assertIs(told, works in right, (net, standing, house, events, works))
                    self.judge_bounds(net, standing, house, most, events, right)

    def judge_bounds(self, net, standing, house, most, events, right):
        """Least and greatest numbers, and keys that surely lie there, up to so many works."""
        bounds = all_known(net, standing, events, house)
        for other, (least, greatest) in enumerate(bounds):
            self.assertEqual(known(net, standing, events, house, other), (least, greatest))
            numbers = list(range(least, (most if greatest is None else min(most, greatest)) + 1))
            self.assertEqual(sorted({works[other] for works in right}), numbers)
        for (u, v), keys in plain.key_table(net, standing).items():
            sure = surely_there(net, standing, events, house, u, v)
            seen = min(keys + works[u] - works[v] for works in right)
            # The fewest keys are seen within these works unless v has to go on beyond them for it.
            if bounds[u][0] + keys - sure <= most:
                self.assertEqual(sure, seen)
            self.assertTrue(0 <= sure <= seen)

    def test_scripts_to_all_of_them(self):
        for net, standing, most in self.cases[:7]:
            for house in range(net[0]):
                for events, right in Explored(net, standing, house, most).by_knowledge().values():
                    wire = wire_behind(net, standing, events)
                    for works in itertools.product(range(most + 1), repeat=net[0]):
                        script = alike_script(net, standing, events, house, list(works))
                        self.assertEqual(script is not None, works in right)
                        if script is not None:
                            self.judge_alike(wire, script, house, works)

    def judge_alike(self, wire, script, house, works):
        self.assertTrue(plain_wire.is_script(wire.net, wire.meant_at_first, script))
        other = wire_behind(wire.net, wire.meant_at_first, script)
        self.assertEqual(other.works, list(works))
        self.assertEqual(held_by(other, house), held_by(wire, house))


class SomeScripts(unittest.TestCase):
    def test_held_against_all_lists_of_works(self):
        chance = random.Random(211)
        for net, standing, events in some_scripts(60, 212):
            wire, table = wire_behind(net, standing, events), plain.key_table(net, standing)
            most = max(wire.works) + (6 if net[0] < 4 else 2 if net[0] < 5 else 1)
            lists = plain.lists_by_runs(net, standing, most)
            house = chance.randrange(net[0])
            those = [works for works in lists if fits(table, lists, wire, house, works)]
            self.assertIn(tuple(wire.works), those)
            for works in [wire.works] + [list(works) for works in chance.sample(list(lists), min(len(lists), 15))]:
                right = tuple(works) in those
                self.assertIs(can_have_worked(net, standing, events, house, works), right)
                script = alike_script(net, standing, events, house, works)
                self.assertEqual(script is not None, right)
                if right:
                    self.judge_script(net, standing, wire, script, house, works)
                    self.assertIs(is_alike_script(net, standing, events, house, script), True)
            self.judge_bounds(net, standing, events, house, those, most)

    def judge_script(self, net, standing, wire, script, house, works):
        self.assertTrue(plain_wire.is_script(net, standing, script))
        other = wire_behind(net, standing, script)
        self.assertEqual((other.works, held_by(other, house)), (works, held_by(wire, house)))

    def judge_bounds(self, net, standing, events, house, those, most):
        bounds = all_known(net, standing, events, house)
        for other, (least, greatest) in enumerate(bounds):
            numbers = list(range(least, (most if greatest is None else min(most, greatest)) + 1))
            self.assertEqual(sorted({works[other] for works in those}), numbers)
        able = []
        table = plain.key_table(net, standing)
        for v in range(net[0]):
            sure = []
            for u in plain.near(net, v):
                sure.append(surely_there(net, standing, events, house, u, v))
                if bounds[u][0] + table[u, v] - sure[-1] <= most:
                    self.assertEqual(sure[-1], min(table[u, v] + works[u] - works[v] for works in those))
            if all(keys > 0 for keys in sure):
                able.append(v)
        self.assertEqual(surely_able(net, standing, events, house), able)

    def test_who_believes_is_sure_of_itself(self):
        seen = 0
        scripts = some_scripts(150, 213) + some_scripts(60, 216, ("work", "send", "bring"))
        for net, standing, events in scripts:
            for house in believing(net, standing, events):
                self.assertIn(house, surely_able(net, standing, events, house))
                seen += bool(plain.near(net, house))
            table = plain.key_table(net, meant(net, standing, events))
            for house in range(net[0]):
                for u, v in table:
                    self.assertLessEqual(surely_there(net, standing, events, house, u, v), table[u, v])
        self.assertGreater(seen, 20)

    def test_alike_scripts_of_one_net(self):
        """Whoever cannot tell two scripts apart can have worked in the one as often as in the other."""
        chance = random.Random(214)
        pairs = [0, 0]
        for net, standing in [(TWO, [1]), ((2, [(0, 1, 2)]), [1]), (PATH, [1, 1]), (RING, [1, 1, 1]),
                              (TAIL, [1, 1, 1, 0]), ((3, [(0, 2, 1)]), [1])]:
            scripts = [random_script(chance, net, standing, chance.randint(0, 25)) for _ in range(25)]
            for one, other in itertools.product(scripts, scripts):
                house = chance.randrange(net[0])
                first, second = wire_behind(net, standing, one), wire_behind(net, standing, other)
                right = (first.works[house], held_by(first, house)) == (second.works[house], held_by(second, house))
                pairs[right] += 1
                self.assertIs(is_alike_script(net, standing, one, house, other), right)
                if right:
                    self.assertTrue(can_have_worked(net, standing, one, house, second.works))
                    for at, (least, greatest) in enumerate(all_known(net, standing, one, house)):
                        self.assertTrue(least <= second.works[at] and (greatest is None or second.works[at] <= greatest))
        self.assertGreater(min(pairs), 200)

    def test_resting_and_letters_on_the_way_are_not_known(self):
        events = [("send", 0, 1), ("bring", 0, 1)]
        for other in (events + [("rest", 1)], events + [("send", 0, 1), ("send", 1, 0)], events + events,
                      [("fall", 1)] + events + [("fall", 0)]):
            self.assertIs(is_alike_script(TWO, [1], events, 1, other), True)
        for other in ([], events + [("fall", 1)], events + [("work", 1)], None, tuple(events), events + [("wake", 1)]):
            self.assertIs(is_alike_script(TWO, [1], events, 1, other), False)

    def test_sure_by_what_is_held_of_others(self):
        """House 0 holds nothing of house 2, but house 1 does not work ahead of it."""
        events = []
        for worker in (2, 1):
            for u in plain.near(RING, worker):
                events += [("send", u, worker), ("bring", u, worker)]
            events.append(("work", worker))
        self.assertEqual(surely_able(RING, [1, 1, 1], events, 0), [])
        events += [("send", 1, 0), ("bring", 1, 0)]
        self.assertIsNone(wire_behind(RING, [1, 1, 1], events).heard[2, 0])
        self.assertEqual(known(RING, [1, 1, 1], events, 0, 2), (1, 1))
        self.assertEqual(surely_able(RING, [1, 1, 1], events, 0), [0])
        self.assertEqual(believing(RING, [1, 1, 1], events), [])


class Values(unittest.TestCase):
    def test_any_values(self):
        for value in any_values() + [[0, 1], [1, 1], (1, 1), [1, True], [True, 1], [1, 1, 1], [1, -1]]:
            right = repr(value) in ("[0, 1]", "[1, 1]")
            self.assertIs(can_have_worked(TWO, [1], DRAWN, 1, value), right, value)
            right = plain_wire.is_script(TWO, [1], value)
            if right:
                wire = wire_behind(TWO, [1], value)
                right = wire.works[0] == 0 and wire.heard[1, 0] is None
            self.assertIs(is_alike_script(TWO, [1], DRAWN, 0, value), right, value)

    def test_one_house_and_houses_apart(self):
        self.assertEqual(all_known((1, []), [], [("work", 0)] * 3, 0), [(3, 3)])
        self.assertEqual(all_known((2, []), [], [("work", 0)] * 3, 0), [(3, 3), (0, None)])
        self.assertTrue(can_have_worked((2, []), [], [("work", 0)] * 3, 0, [3, 10 ** 29]))
        self.assertEqual(surely_able((3, [(0, 1, 1)]), [1], [], 0), [2])
        self.assertEqual(plain_wire.wire_behind((2, []), [], alike_script((2, []), [], [], 1, [4, 0])).works, [4, 0])

    def test_stuck_houses(self):
        self.assertEqual(all_known(TAIL, [0, 1, 0, 1], [], 3), [(0, 0), (0, 0), (0, 0), (0, 0)])
        self.assertEqual(all_known(TAIL, [0, 1, 0, 1], [], 1), [(0, 0), (0, 0), (0, 0), (0, 1)])
        self.assertIsNone(alike_script(RING, [0, 1, 0], [], 0, [0, 1, 0]))
        self.assertIsNotNone(alike_script(TAIL, [0, 1, 0, 1], [], 0, [0, 0, 0, 1]))

    def test_at_the_limits(self):
        chance = random.Random(215)
        net, standing = complete(12, 9), [(7 * at) % 8 + 1 for at in range(66)]
        events = random_script(chance, net, standing, 200)
        wire = wire_behind(net, standing, events)
        for house in range(12):
            self.assertTrue(can_have_worked(net, standing, events, house, wire.works))
            bounds = all_known(net, standing, events, house)
            for (least, most), many in zip(bounds, wire.works):
                self.assertTrue(least <= many <= most)
            for v in surely_able(net, standing, events, house):
                self.assertTrue(all(surely_there(net, standing, events, house, u, v) > 0 for u in range(12) if u != v))
        row = (12, [(at, at + 1, 5) for at in range(11)])
        script = alike_script(row, [3] * 11, [("rest", 4)], 0, [0] + [3, 6, 6, 6, 6, 6, 6, 6, 6, 5, 4])
        self.assertEqual(wire_behind(row, [3] * 11, script).works, [0, 3, 6, 6, 6, 6, 6, 6, 6, 6, 5, 4])


class Errors(unittest.TestCase):
    calls = [lambda net, standing, events, house: can_have_worked(net, standing, events, house, None),
             lambda net, standing, events, house: alike_script(net, standing, events, house, None),
             lambda net, standing, events, house: is_alike_script(net, standing, events, house, None),
             lambda net, standing, events, house: known(net, standing, events, house, None), all_known,
             lambda net, standing, events, house: surely_there(net, standing, events, house, None, None), surely_able]

    def test_scripts_and_then_houses(self):
        for call in self.calls:
            for wrong in (None, (), [("work", 1)], [("bring", 0, 1)], [("fall", True)], [None], "", {}):
                with self.assertRaises(InvalidScript) as caught:
                    call(TWO, [1], wrong, None)
                self.assertIs(caught.exception.value, wrong)
            for wrong in (2, -1, None, True, "0", [0]):
                with self.assertRaises(InvalidHouse) as caught:
                    call(TWO, [1], DRAWN, wrong)
                self.assertIs(caught.exception.value, wrong)

    def test_works_and_other_houses(self):
        for wrong in (None, (0, 1), [0], [0, 1, 1], [0, -1], [0, True], ["0", 1], {}, 0):
            with self.assertRaises(InvalidWorks) as caught:
                alike_script(TWO, [1], DRAWN, 1, wrong)
            self.assertIs(caught.exception.value, wrong)
        for wrong in (2, -1, None, True, "0", [0]):
            with self.assertRaises(InvalidHouse) as caught:
                known(TWO, [1], DRAWN, 1, wrong)
            self.assertIs(caught.exception.value, wrong)
        for u, v, wrong in [(3, None, 3), (True, 0, True), (0, 2, 2), (0, 0, 0), (0, True, True), (None, 1, None)]:
            with self.assertRaises(InvalidHouse) as caught:
                surely_there(PATH, [1, 0], [], 2, u, v)
            self.assertIs(caught.exception.value, wrong)


if __name__ == "__main__":
    unittest.main()
