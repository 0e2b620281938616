"""[85] to [87]: a live network."""

import itertools
import random
import unittest

from keyroads import network as module
from keyroads.counts import counts, last_standing
from keyroads.errors import InvalidDeed, InvalidNet, InvalidStanding, NothingToRedo, NothingToUndo
from keyroads.lines import line_of
from keyroads.network import Network, is_deed
from tests import plain, plain_changes
from tests.plain import PATH, RING, TAIL, complete
from tests.values import any_values, is_plain, lists_in

METHODS = ("net", "standing", "resting", "line", "do", "undo", "redo", "log", "copy", "ready", "stuck", "left", "last")


def done(state, deed):
    """What is kept behind a deed, None if it cannot be done."""
    net, standing, resting = state
    if type(deed) is not tuple or len(deed) < 2 or type(deed[0]) is not str:
        return None
    word, house = deed[:2]
    whole = type(house) is int and 0 <= house < net[0] and len(deed) == 2
    if word in ("rest", "wake"):
        if not whole or (house in resting) is (word == "rest"):
            return None
        return net, standing, sorted({*resting} ^ {house})
    if word == "house" and net[0] > 11 or word == "work" and whole and house in resting:
        return None
    there = plain_changes.changed(net, standing, deed)
    if there is None:
        return None
    if word == "gone":
        resting = [other - (other > house) for other in resting if other != house]
    return there[0], there[1], resting


def random_deeds(chance, state, many, words=("out", "in", "more", "less", "house", "gone", "work", "rest", "wake")):
    """So many deeds, and what is kept behind each of them."""
    deeds, states = [], [state]
    for _ in range(many):
        word = chance.choice(words)
        choice = [deed for deed in plain_changes.possible(states[-1][0], chance) + [
            (word, house) for house in range(states[-1][0][0])] if deed[0] == word]
        choice = [deed for deed in choice if done(states[-1], deed) is not None]
        if choice:
            deeds.append(chance.choice(choice))
            states.append(done(states[-1], deeds[-1]))
    return deeds, states


def kept(network):
    return network.net(), network.standing(), network.resting()


class Examples(unittest.TestCase):
    def test_of_the_document(self):
        network = Network((3, [(0, 1, 1), (1, 2, 2)]), [1, 2])
        self.assertEqual([network.ready(), network.left(), is_deed(network, ("work", 1)), is_deed(network, ("wake", 0)),
                          is_deed(network, ("rest", 3))],
                         [[2], [None, None, None], False, False, False])
        network.do(("rest", 0))
        self.assertEqual([network.left(), network.last(), network.ready()], [[0, 1, 3], [0, 0], [2]])
        network.do(("work", 2))
        self.assertEqual([network.left(), network.ready(), network.line()], [[0, 1, 2], [1, 2], "3: 0-1 0/1, 1-2 1/1"])
        network.do(("gone", 1))
        self.assertEqual([network.net(), network.standing(), network.resting(), len(network.log()), network.undo(),
                          network == network.copy()],
                         [(2, []), [], [0], 3, None, True])


class Deeds(unittest.TestCase):
    def judge(self, network, state, deeds):
        net, standing, resting = state
        self.assertEqual(kept(network), state)
        self.assertEqual(network.log(), deeds)
        self.assertEqual(network.line(), line_of(net, standing))
        self.assertEqual(network.ready(), [house for house in range(net[0])
                                           if house not in resting and plain.can_work(net, standing, house)])
        self.assertEqual(network.left(), counts(net, standing, resting))
        self.assertEqual(network.last(), last_standing(net, standing, resting))
        if net[0] < 6:
            stuck = plain.stuck_houses(net, standing)
            self.assertEqual(network.stuck(), stuck)
            ends = resting + stuck
            self.assertEqual(network.left(), [plain.least_length(net, standing, ends, house) for house in range(net[0])])

    def test_deed_by_deed(self):
        chance = random.Random(321)
        for net, standing in plain.some_cases(80, 322):
            network = Network(net, standing)
            deeds, states = random_deeds(chance, (net, standing, []), 12)
            self.judge(network, states[0], [])
            for at, deed in enumerate(deeds):
                self.assertIs(is_deed(network, deed), True)
                self.assertIsNone(network.do(deed))
                self.judge(network, states[at + 1], deeds[:at + 1])

    def test_what_is_a_deed_now(self):
        chance = random.Random(323)
        seen = [0, 0]
        for net, standing in plain.some_cases(60, 324):
            network = Network(net, standing)
            deeds, states = random_deeds(chance, (net, standing, []), chance.randint(0, 6))
            for deed in deeds:
                network.do(deed)
            houses = range(-1, states[-1][0][0] + 1)
            tried = plain_changes.possible(states[-1][0], chance, 99) + any_values()
            tried += [(word, house) for word in ("rest", "wake", "work", "gone") for house in houses]
            tried += [("rest", True), ("wake", None), ("rest", 0, 1), ("rest",), ["rest", 0], ("work", 0, 0), ("rest", [0])]
            for value in tried:
                right = done(states[-1], value) is not None
                seen[right] += 1
                self.assertIs(is_deed(network, value), right, value)
                if not right:
                    with self.assertRaises(InvalidDeed) as caught:
                        network.do(value)
                    self.assertIs(caught.exception.value, value)
            self.assertEqual((kept(network), network.log()), (states[-1], deeds))
        self.assertGreater(min(seen), 300)

    def test_twelve_houses(self):
        network = Network((11, []), [])
        self.assertTrue(is_deed(network, ("house", [])))
        network.do(("house", [(0, 1, 2)]))
        self.assertFalse(is_deed(network, ("house", [])))
        with self.assertRaises(InvalidDeed):
            network.do(("house", []))
        network.do(("gone", 3))
        self.assertTrue(is_deed(network, ("house", [(10, 1, 1)])))
        great = Network((13, []), [])
        self.assertFalse(is_deed(great, ("house", [])))
        self.assertTrue(is_deed(great, ("gone", 12)))

    def test_resting_houses_behind_changes(self):
        network = Network((5, [(0, 1, 1), (3, 4, 2)]), [0, 1])
        for house in (4, 1, 3):
            network.do(("rest", house))
        self.assertEqual(network.resting(), [1, 3, 4])
        network.do(("house", [(1, 0, 1)]))
        self.assertEqual(network.resting(), [1, 3, 4])
        network.do(("gone", 3))
        self.assertEqual(network.resting(), [1, 3])
        self.assertFalse(is_deed(network, ("work", 1)))
        self.assertFalse(is_deed(network, ("work", True)))
        network.do(("gone", 0))
        self.assertEqual(network.resting(), [0, 2])
        network.do(("wake", 0))
        self.assertEqual((network.resting(), network.ready()), ([2], [0, 1]))

    def test_what_works_and_rests_do_to_counts(self):
        chance = random.Random(325)
        seen = {"work": 0, "rest": 0, "wake": 0}
        for net, standing in plain.some_cases(150, 326):
            network = Network(net, standing)
            deeds, _ = random_deeds(chance, (net, standing, []), 15, ("work", "rest", "wake", "work"))
            for deed in deeds:
                left, stuck, last = network.left(), network.stuck(), network.last()
                network.do(deed)
                word, house = deed
                seen[word] += 1
                if word == "work":
                    left[house] = None if left[house] is None else left[house] - 1
                    self.assertEqual((network.left(), network.stuck(), network.last()), (left, stuck, last))
                else:
                    less, more = (network.left(), left) if word == "rest" else (left, network.left())
                    self.assertTrue(all(two is None or one is not None and one <= two for one, two in zip(less, more)))
        self.assertGreater(min(seen.values()), 50)

    def test_one_house_and_stuck_rings(self):
        alone = Network((1, []), [])
        self.assertEqual([alone.ready(), alone.left(), alone.last(), alone.stuck(), alone.line(), alone.log()],
                         [[0], [None], None, [], "1:", []])
        self.assertFalse(is_deed(alone, ("gone", 0)))
        alone.do(("rest", 0))
        self.assertEqual([alone.ready(), alone.left(), alone.last()], [[], [0], []])
        ring = Network(TAIL, [0, 1, 0, 1])
        self.assertEqual([ring.ready(), ring.left(), ring.last(), ring.stuck()],
                         [[3], [0, 0, 0, 1], [0, 1, 0, 0], [0, 1, 2]])
        ring.do(("out", 2, 0))
        self.assertEqual([ring.stuck(), ring.left()], [[], [None] * 4])

    def test_at_the_limits(self):
        chance = random.Random(327)
        net, standing = complete(12, 9), [(7 * at) % 8 + 1 for at in range(66)]
        network = Network(net, standing)
        words = ("out", "in", "more", "less", "work", "work", "rest", "wake")
        deeds, states = random_deeds(chance, (net, standing, []), 100, words)
        for at, deed in enumerate(deeds):
            network.do(deed)
            self.assertEqual(kept(network), states[at + 1])
            network.ready(), network.stuck(), network.left(), network.last(), network.line()
        for state in reversed(states[:-1]):
            network.undo()
            self.assertEqual(kept(network), state)
        for state in states[1:]:
            network.redo()
            self.assertEqual(kept(network), state)
        self.assertEqual(network.log(), deeds)


class Undone(unittest.TestCase):
    def test_to_and_fro_with_other_deeds_between(self):
        """Held against a list of all that is kept behind each deed."""
        chance = random.Random(328)
        for net, standing in plain.some_cases(80, 329):
            network = Network(net, standing)
            states, deeds, later = [(net, standing, [])], [], []
            for _ in range(40):
                step = chance.choice(("do", "do", "undo", "undo", "redo"))
                if step == "do":
                    found, behind = random_deeds(chance, states[-1], 1)
                    if found:
                        self.assertIsNone(network.do(found[0]))
                        states, deeds, later = states + behind[1:], deeds + found, []
                elif step == "undo" and deeds:
                    self.assertIsNone(network.undo())
                    later.append((states.pop(), deeds.pop()))
                elif step == "redo" and later:
                    self.assertIsNone(network.redo())
                    state, deed = later.pop()
                    states, deeds = states + [state], deeds + [deed]
                else:
                    with self.assertRaises(NothingToUndo if step == "undo" else NothingToRedo):
                        network.undo() if step == "undo" else network.redo()
                self.assertEqual((kept(network), network.log()), (states[-1], deeds))

    def test_nothing_to_undo_or_redo(self):
        network = Network(PATH, [1, 2])
        for _ in range(2):
            with self.assertRaises(NothingToUndo):
                network.undo()
            with self.assertRaises(NothingToRedo):
                network.redo()
        network.do(("rest", 0))
        network.undo()
        with self.assertRaises(InvalidDeed):
            network.do(("wake", 0))
        network.redo()
        self.assertEqual(network.resting(), [0])
        network.undo()
        network.do(("rest", 1))
        with self.assertRaises(NothingToRedo):
            network.redo()

    def test_equal_exactly_if_all_is(self):
        one, other = Network(RING, [1, 1, 1]), Network(RING, [1, 1, 1])
        self.assertTrue(one == other and not one != other)
        one.do(("rest", 0))
        self.assertFalse(one == other)
        one.do(("wake", 0))
        self.assertFalse(one == other)
        self.assertEqual(kept(one), kept(other))
        one.undo()
        one.undo()
        # What can be done again is no part of it.
        self.assertTrue(one == other)
        self.assertFalse(Network(RING, [1, 1, 1]) == Network(RING, [1, 1, 0]))
        self.assertFalse(Network((2, []), []) == Network((3, []), []))
        behind = Network(RING, [1, 1, 1])
        behind.do(("work", 2))
        self.assertFalse(behind == Network(*kept(behind)[:2]))
        for value in any_values():
            self.assertFalse(one == value)
            self.assertTrue(one != value)
        # Two beginnings, one log, one end: a key is put in, and another one was there.
        first, second = Network((2, [(0, 1, 2)]), [0]), Network((2, [(0, 1, 1)]), [0])
        self.assertFalse(first == second)
        for network in (first, second):
            network.do(("out", 0, 1))
        self.assertTrue(first == second)

    def test_copies_go_their_own_way(self):
        chance = random.Random(330)
        for net, standing in plain.some_cases(60, 331):
            network = Network(net, standing)
            deeds, states = random_deeds(chance, (net, standing, []), 8)
            for deed in deeds:
                network.do(deed)
            back = chance.randint(0, len(deeds))
            for _ in range(back):
                network.undo()
            twin = network.copy()
            self.assertIsInstance(twin, Network)
            self.assertTrue(twin == network)
            at = len(deeds) - back
            for here in range(at, len(deeds)):
                twin.redo()
                self.assertEqual(kept(twin), states[here + 1])
            self.assertEqual((kept(network), network.log()), (states[at], deeds[:at]))
            other = network.copy()
            for here in range(at, len(deeds)):
                other.redo()
            self.assertEqual((kept(other), other.log()), (states[-1], deeds))
            for here in reversed(range(len(deeds))):
                twin.undo()
                self.assertEqual(kept(twin), states[here])
            self.assertEqual((kept(network), network.log()), (states[at], deeds[:at]))
            for deed in random_deeds(chance, states[at], 3)[0]:
                network.do(deed)
            self.assertEqual((kept(twin), twin.log()), (states[0], []))
            if deeds:
                twin.redo()
                self.assertEqual(kept(twin), states[1])


class Kept(unittest.TestCase):
    def test_what_is_handed_over_and_changed_afterwards(self):
        net, standing, ends = (3, [(0, 1, 1)]), [1], [(0, 1, 1)]
        network = Network(net, standing)
        deed = ("house", ends)
        network.do(deed)
        net[1].append((1, 2, 1))
        standing[0] = 0
        ends.append((2, 1, 1))
        self.assertEqual((kept(network), network.log()),
                         (((4, [(0, 1, 1), (0, 3, 2)]), [1, 1], []), [("house", [(0, 1, 1)])]))
        network.undo()
        self.assertEqual(kept(network), ((3, [(0, 1, 1)]), [1], []))
        network.redo()
        self.assertEqual(kept(network), ((4, [(0, 1, 1), (0, 3, 2)]), [1, 1], []))

    def test_what_is_returned_and_changed_afterwards(self):
        network = Network(TAIL, [0, 1, 0, 1])
        for deed in [("rest", 3), ("house", [(1, 0, 2), (3, 1, 1)]), ("work", 4), ("house", []), ("rest", 4)]:
            if is_deed(network, deed):
                network.do(deed)
        network.do(("rest", 0))
        twin = network.copy()
        for name in ("net", "standing", "resting", "log", "ready", "stuck", "left", "last", "line"):
            result, again = getattr(network, name)(), getattr(network, name)()
            self.assertTrue(is_plain(result))
            lists = lists_in(result)
            self.assertEqual(len({id(item) for item in lists + lists_in(again)}), 2 * len(lists))
            for item in lists:
                item.append(7)
            self.assertEqual(getattr(network, name)(), again)
        for name in ("net", "standing", "resting", "log"):
            self.assertEqual(getattr(network, name)(), getattr(twin, name)())
        while network.log():
            network.undo()
        self.assertEqual(kept(network), (TAIL, [0, 1, 0, 1], []))
        self.assertFalse(twin.log() == [])

    def test_errors_of_making_one(self):
        for net, standing, error, wrong in [(None, None, InvalidNet, None), ((0, []), [], InvalidNet, (0, [])),
                                            (PATH, None, InvalidStanding, None), (PATH, [2, 0], InvalidStanding, [2, 0]),
                                            (PATH, (1, 0), InvalidStanding, (1, 0))]:
            with self.assertRaises(error) as caught:
                Network(net, standing)
            self.assertEqual(caught.exception.value, wrong)
        self.assertEqual(Network(standing=[1, 0], net=PATH).line(), "3: 0-1 0/1, 1-2 2/0")

    def test_errors_of_what_is_no_network(self):
        wrong_ones = [wrong for wrong in any_values() if not isinstance(wrong, Network)]
        for wrong, value in itertools.product(wrong_ones, (None, ("rest", 0))):
            with self.assertRaises(InvalidDeed) as caught:
                is_deed(wrong, value)
            self.assertIs(caught.exception.value, wrong)
        network = Network(PATH, [1, 0])
        self.assertTrue(is_deed(value=("rest", 0), network=network))
        self.assertFalse(is_deed(network, network))
        self.assertFalse(is_deed(network, ("rest", network)))
        self.assertFalse(is_deed(network, (network, 0)))
        self.assertFalse(is_deed(network, ("house", [(network, 1, 1)])))

    def test_methods_stand_in_the_class_itself(self):
        for name in METHODS:
            self.assertIn(name, vars(Network))
        self.assertEqual(Network.__module__, "keyroads.network")
        self.assertEqual(is_deed.__module__, module.__name__)
        network = Network(PATH, [1, 2])
        network.do(deed=("work", 2))
        self.assertEqual(network.standing(), [1, 1])


if __name__ == "__main__":
    unittest.main()
