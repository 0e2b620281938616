"""[82] and [83]: histories of changes."""

import itertools
import random
import unittest

from keyroads.changes import places_for
from keyroads.errors import InvalidNet, InvalidScript, InvalidStanding
from keyroads.histories import behind, first_stuck, is_history, taken_back
from tests import plain, plain_changes
from tests.plain import PATH, RING, TAIL, complete, stuck_rings
from tests.plain_changes import changed, random_history, some_histories
from tests.values import any_values

ROW = (3, [(0, 1, 1), (1, 2, 1)])
BACK = ("out", "in", "more", "less", "house")


def stages(net, standing, history):
    """What is ahead of each change and behind the last one."""
    found = [(net, standing)]
    for change in history:
        found.append(changed(*found[-1], change))
    return found


def tuples_like_changes(net, chance):
    """Tuples that look like changes of a net, and some that do not."""
    houses = list(range(-1, net[0] + 1)) + [True, None]
    found = [(word, u, v) for word in ("out", "more", "less", "in", "work") for u in houses for v in houses]
    found += [("in", u, v, at_u, at_v) for u in houses for v in houses for at_u, at_v in [(0, 1), (0, 0), (2, 1)]]
    found += [(word, house) for word in ("work", "gone", "house", "rest", "out") for house in houses]
    found += [("house", [(house, 1, 0)]) for house in houses]
    found += [("house", ends) for ends in ([], [(0, 0, 0)], [(0, 1, 1), (0, 1, 1)], (), [[0, 1, 1]], [(0, 1)])]
    return found + [("in", 0, 1, 1, -1), ("in", 0, 1, 1), ("work",), (), ("gone", 0, 1), ["work", 0], ("", 0)] + [
        (word, 0, 1, 1, 1) for word in ("out", "more", "less", "house", "work", "")] + [("in", 0, net[0] - 1, 1, 1, 1)]


class Examples(unittest.TestCase):
    def test_of_the_document(self):
        history = [("work", 0), ("in", 0, 2, 1, 0)]
        self.assertEqual([is_history(ROW, [0, 0], history), behind(ROW, [0, 0], history),
                          first_stuck(ROW, [0, 0], [("in", 0, 2, 0, 1)])],
                         [True, ((3, [(0, 1, 1), (0, 2, 1), (1, 2, 1)]), [1, 0, 0]), (0, [0, 1, 2])])


class Histories(unittest.TestCase):
    def test_gone_through_change_by_change(self):
        chance = random.Random(291)
        for net, standing, history in some_histories(80, 292):
            right = stages(net, standing, history)
            self.assertIs(is_history(net, standing, history), True)
            self.assertEqual(behind(net, standing, history), right[-1])
            for change in tuples_like_changes(right[-1][0], chance)[chance.randrange(5)::5]:
                there = changed(*right[-1], change)
                self.assertIs(is_history(net, standing, history + [change]), there is not None, change)
                if there is not None:
                    self.assertEqual(behind(net, standing, history + [change]), there)
                else:
                    for call in (behind, first_stuck, taken_back):
                        with self.assertRaises(InvalidScript) as caught:
                            call(net, standing, history + [change, None])
                        self.assertIs(caught.exception.value, change)

    def test_each_change_in_its_turn(self):
        chance = random.Random(293)
        wrong = 0
        for net, standing, history in some_histories(120, 294):
            for _ in range(3):
                other = list(history)
                chance.shuffle(other)
                here, bad = (net, standing), []
                for change in other:
                    there = changed(*here, change)
                    if there is None:
                        bad = [change]
                        break
                    here = there
                self.assertIs(is_history(net, standing, other), not bad)
                if bad:
                    wrong += 1
                    with self.assertRaises(InvalidScript) as caught:
                        behind(net, standing, other)
                    self.assertIs(caught.exception.value, bad[0])
                else:
                    self.assertEqual(behind(net, standing, other), here)
        self.assertGreater(wrong, 50)

    def test_any_values(self):
        odd = any_values() + [[("work", 0)], [("work", 0), ("gone", 2)], [("gone", True)], [("house", [])], [["work", 0]],
                              (("work", 0),), [("house", [(0, 1, 1)])], [("house", [(0, True, 1)])], [("more", 0, 1)],
                              [("out", 0, 2, 1, 1)],
                              [("in", 0, 2, 1, 1)]]
        for value in odd:
            right = type(value) is list
            here = (ROW, [0, 0])
            for change in value if right else []:
                here = None if here is None else changed(*here, change)
            self.assertIs(is_history(ROW, [0, 0], value), right and here is not None, value)
            if not right:
                for call in (behind, first_stuck, taken_back):
                    with self.assertRaises(InvalidScript) as caught:
                        call(ROW, [0, 0], value)
                    self.assertIs(caught.exception.value, value)

    def test_empty_ones(self):
        for net, standing in plain.some_cases(40, 295):
            self.assertEqual(behind(net, standing, []), (net, standing))
            self.assertEqual(taken_back(net, standing, []), [])
            there = behind(net, standing, [])
            self.assertFalse(there[0][1] is net[1] or there[1] is standing)

    def test_first_stuck(self):
        seen = {"never": 0, "first": 0, "later": 0}
        for net, standing, history in some_histories(200, 296, ("in", "in", "less", "work", "house", "more")):
            right = None
            for at, stage in enumerate(stages(net, standing, history)):
                rings = stuck_rings(*stage) if stage[0][0] < 7 else []
                if rings:
                    right = (at - 1, rings[0])
                    break
            self.assertEqual(first_stuck(net, standing, history), right)
            seen["never" if right is None else "first" if right[0] == -1 else "later"] += 1
        self.assertGreater(min(seen.values()), 10)
        self.assertEqual(first_stuck(RING, [0, 1, 0], []), (-1, [0, 1, 2]))
        self.assertIsNone(first_stuck((1, []), [], [("work", 0)]))
        # A ring that is stuck first tells the number, whether or not it goes again.
        history = [("work", 0), ("work", 1), ("work", 2), ("in", 0, 2, 0, 1), ("out", 0, 2), ("in", 0, 2, 0, 1)]
        self.assertEqual(first_stuck(ROW, [0, 0], history), (3, [0, 1, 2]))

    def test_never_stuck_if_new_roads_lie_as_told(self):
        chance = random.Random(297)
        for net, standing, _ in some_histories(60, 298):
            if not plain.is_free(net, standing):
                continue
            history, here = [], (net, standing)
            for _ in range(12):
                more, there = random_history(chance, *here, 1, ("in", "work", "more", "out", "gone", "work"))
                if more and more[0][0] == "in":
                    u, v, at_u, at_v = more[0][1:]
                    if at_u not in places_for(*here, u, v, at_u + at_v):
                        continue
                history, here = history + more, there
            self.assertIsNone(first_stuck(net, standing, history))

    def test_at_the_limits(self):
        chance = random.Random(299)
        net, standing = complete(12, 9), [(7 * at) % 8 + 1 for at in range(66)]
        history, here = [], (net, standing)
        words = itertools.cycle(["out", "work", "more", "less", "work", "in"])
        while len(history) < 100:
            more, here = random_history(chance, *here, 1, (next(words),))
            history += more
        self.assertEqual(behind(net, standing, history), here)
        self.assertTrue(is_history(net, standing, history))
        self.assertIsNone(taken_back(net, standing, history))
        self.assertIsNone(first_stuck(net, standing, history))
        history = [change for change in history if change[0] == "more"]
        self.assertEqual(behind(*behind(net, standing, history), taken_back(net, standing, history)), (net, standing))
        grown = [("house", [(house, 1, 1) for house in range(houses)]) for houses in range(1, 14)]
        self.assertEqual(behind((1, []), [], grown)[0][0], 14)
        self.assertEqual(taken_back((1, []), [], grown), [("gone", house) for house in range(13, 0, -1)])


class TakenBack(unittest.TestCase):
    def test_back_to_what_was_ahead(self):
        for net, standing, history in some_histories(150, 300, BACK):
            back = taken_back(net, standing, history)
            there = behind(net, standing, history)
            self.assertFalse([change for change in back if change[0] == "work"])
            self.assertEqual(stages(*there, back)[-1], (net, standing))
            self.assertTrue(is_history(*there, back))
            self.assertEqual(behind(net, standing, history + back), (net, standing))

    def test_works_and_houses_that_are_gone_are_not_taken_back(self):
        seen = [0, 0]
        for net, standing, history in some_histories(150, 301):
            right = any(change[0] in ("work", "gone") for change in history)
            self.assertEqual(taken_back(net, standing, history) is None, right)
            seen[right] += 1
        self.assertGreater(min(seen), 5)
        self.assertIsNone(taken_back((2, []), [], [("gone", 1)]))
        self.assertIsNone(taken_back((2, []), [], [("house", []), ("gone", 2)]))
        self.assertIsNone(taken_back((1, []), [], [("work", 0)]))


class Errors(unittest.TestCase):
    def test_nets_and_standings(self):
        for call in (is_history, behind, first_stuck, taken_back):
            with self.assertRaises(InvalidNet):
                call((0, []), None, None)
            with self.assertRaises(InvalidStanding):
                call(PATH, [2, 0], None)

    def test_what_is_done_of_a_wrong_history_changes_nothing(self):
        ends = [(0, 1, 1)]
        history = [("house", ends), ("work", 0), ("work", 0)]
        with self.assertRaises(InvalidScript) as caught:
            behind(TAIL, [0, 1, 0, 1], history)
        self.assertIs(caught.exception.value, history[1])
        self.assertEqual((history, ends), ([("house", [(0, 1, 1)]), ("work", 0), ("work", 0)], [(0, 1, 1)]))


if __name__ == "__main__":
    unittest.main()
