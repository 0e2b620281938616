"""[66] to [71]: marks."""

import itertools
import random
import unittest

from keyroads.errors import InvalidEvent, InvalidHouse, InvalidMarks, InvalidNumber
from keyroads.leads import most_keys
from keyroads.marks import (alike_lines, alike_runs, are_alike_lines, are_alike_runs, enough_marks, is_late_letter,
                            is_line, late_letter, line_read, read_by, read_whole, spread, wants)
from tests import plain, plain_marks
from tests.plain import PATH, RING, TAIL, complete
from tests.plain_marks import PlainLine, line_behind, random_line
from tests.values import any_values

TWO, AT_LOW = (2, [(0, 1, 2)]), [0]
LATER = (["send", "fall", "bring"], [0, 0, "send", "fall", "bring"])


def roads_of(net):
    """All directions of a net, in order."""
    return sorted(plain.key_table(net, [0] * len(net[1])))


def most_works(net, standing, house):
    """How often a house works at most, None if there is no most."""
    return plain.least_length(net, standing, plain.stuck_houses(net, standing), house)


def most_there(net, standing, u, v):
    """The most keys that ever lie at v's end."""
    return max(plain.key_table(net, list(there))[u, v] for there in plain.later(net, standing))


def reached_behind_a_fall(net, standing, u, v, marks, most):
    """For each number of v, all numbers of u of letters that come just behind a fall, up to so many works of each.

    Of the line only what matters is kept: two letters at most, the last of which may come at the end.
    """
    start = (tuple(standing), (0,) * net[0], None, ())
    seen, waiting, found = {start: True}, [start], {}
    while waiting:
        standing_now, works, read, line = waiting.pop()
        if line:
            found.setdefault(works[v], set()).add(line[0])
        here = PlainLine(net, standing, u, v, marks)
        here.standing, here.works, here.read, here.line = list(standing_now), list(works), read, list(line)
        for event in here.possible():
            if event in ("lose", "double", "fall") or (event == "send" and len(line) > 1):
                continue
            if event in range(net[0]) and works[event] >= most:
                continue
            after = PlainLine(net, standing, u, v, marks)
            after.standing, after.works, after.read, after.line = here.standing, list(works), read, list(line)
            after.do(event)
            state = (tuple(after.standing), tuple(after.works), after.read, tuple(after.line))
            if state not in seen:
                seen[state] = True
                waiting.append(state)
    return found


class Examples(unittest.TestCase):
    def test_of_the_document(self):
        self.assertEqual([spread(TWO, AT_LOW, 0, 1), enough_marks(TWO, AT_LOW, 0, 1)], [2, 3])
        self.assertEqual([read_by(3, 0, 3, 2), read_by(3, 1, 3, 2), read_by(0, 0, 1, 0), read_whole(3, 1, [1, 4, 0]),
                          read_whole(3, 1, [])],
                         [5, 2, 0, 4, 2])
        self.assertEqual([alike_runs(TWO, AT_LOW, 0, 1, 3), are_alike_runs(TWO, AT_LOW, 0, 1, 2, ([], [0, 0])),
                          are_alike_runs(TWO, AT_LOW, 0, 1, 2, ([0, 1], [0, 1, 0]))],
                         [None, True, False])
        self.assertEqual([are_alike_lines(TWO, AT_LOW, 0, 1, 2, LATER), are_alike_lines(TWO, AT_LOW, 0, 1, 1, LATER),
                          alike_lines(TWO, AT_LOW, 0, 1, 3)],
                         [True, False, None])
        self.assertEqual([is_late_letter(TWO, AT_LOW, 0, 1, 3, ([0, 0, 1, 1, 0, 1], 1)),
                          line_read(TWO, AT_LOW, 0, 1, 3, [0, "send", 0, "send", "bring", 1, "fall", "bring"]),
                          wants(TWO, AT_LOW, 0, 1, 3, [0, "send", "bring"])],
                         [True, [(1, 1), (2, 2)], True])
        self.assertEqual([is_line(TWO, AT_LOW, 0, 1, 3, [0, 1]), is_line(TWO, AT_LOW, 0, 1, 3, ["bring"]),
                          line_read(TWO, AT_LOW, 0, 1, 2, [0, 0, "send", "bring"])],
                         [False, False, [(0, 2)]])


class Rows(unittest.TestCase):
    def test_spread_over_all_lists_of_works(self):
        """Up to so many works: the row of v's number d(u, v), or of its last one, is whole then."""
        for net, standing in plain.some_cases(90, 221) + [(TAIL, [0, 1, 0, 1]), (TAIL, [0, 1, 0, 0])]:
            most = 6 if net[0] < 4 else 4
            lists = plain.lists_by_runs(net, standing, most)
            for u, v in roads_of(net):
                rows = {}
                for works in lists:
                    rows.setdefault(works[v], []).append(works[u])
                widths = [max(row) - min(row) for number, row in rows.items()]
                self.assertEqual(spread(net, standing, u, v), max(widths), (net, standing, u, v))
                both = (plain.least_length(net, standing, [u], v) + plain.least_length(net, standing, [v], u))
                if plain.is_free(net, standing):
                    self.assertEqual(max(widths), both)
                self.assertLessEqual(max(widths), both)

    def test_spread_is_all_keys_exactly_on_best_roads(self):
        for net, standing in plain.some_cases(90, 222):
            table = plain.key_table(net, standing)
            for u, v in table:
                if plain.is_free(net, standing):
                    best = (plain.least_length(net, standing, [u], v) == table[u, v]
                            and plain.least_length(net, standing, [v], u) == table[v, u])
                    self.assertEqual(spread(net, standing, u, v) == table[u, v] + table[v, u], best)

    def test_most_keys_and_one_more(self):
        for net, standing in plain.some_cases(90, 223) + [(TAIL, [0, 1, 0, 1])]:
            for u, v in roads_of(net):
                self.assertEqual(enough_marks(net, standing, u, v), most_there(net, standing, u, v) + 1)
                self.assertEqual(enough_marks(net, standing, u, v), most_keys(net, standing, u, v) + 1)

    def test_at_the_limits(self):
        net, standing = complete(12, 9), [(7 * at) % 8 + 1 for at in range(66)]
        for u, v in [(0, 11), (11, 0), (5, 6), (6, 5)]:
            many, enough = spread(net, standing, u, v), enough_marks(net, standing, u, v)
            for marks in (1, many, enough - 1, enough, 10 ** 29):
                runs, lines = alike_runs(net, standing, u, v, marks), alike_lines(net, standing, u, v, marks)
                self.assertEqual((runs is None, lines is None), (marks > many, marks >= enough))
                if runs is not None:
                    self.assertTrue(are_alike_runs(net, standing, u, v, marks, runs))
                if lines is not None:
                    self.assertTrue(are_alike_lines(net, standing, u, v, marks, lines))
                late = late_letter(net, standing, u, v, marks)
                self.assertTrue(late is None or is_late_letter(net, standing, u, v, marks, late))
        row = (12, [(at, at + 1, 9) for at in range(11)])
        for u, v in roads_of(row):
            self.assertEqual(spread(row, [4] * 11, u, v), 9)
            self.assertTrue(is_late_letter(row, [4] * 11, u, v, 2, late_letter(row, [4] * 11, u, v, 2)))
        self.assertEqual(enough_marks((2, [(0, 1, 10 ** 29)]), [5], 0, 1), 10 ** 29 + 1)


class Reading(unittest.TestCase):
    def test_the_only_number_with_this_rest(self):
        for number, first, marks in itertools.product(range(7), range(5), range(1, 6)):
            for letter in range(marks):
                right = [y for y in range(number - first, number - first + marks) if y % marks == letter]
                self.assertEqual([read_by(number, first, marks, letter)], right)
        self.assertEqual(read_by(0, 10 ** 29, 3, 1), -10 ** 29 + (1 + 10 ** 29) % 3)
        self.assertEqual(read_by(10 ** 29, 0, 10 ** 29, 10 ** 29 - 1), 2 * 10 ** 29 - 1)

    def test_errors_of_read_by(self):
        for number, first, marks, letter, error, wrong in [
                (-1, None, None, None, InvalidNumber, -1), (True, 0, 1, 0, InvalidNumber, True),
                (0, -1, None, None, InvalidNumber, -1), (0, [], 1, 0, InvalidNumber, []),
                (0, 0, 0, None, InvalidMarks, 0), (0, 0, True, 0, InvalidMarks, True), (0, 0, -2, 9, InvalidMarks, -2),
                (0, 0, "1", 0, InvalidMarks, "1"), (0, 0, 1, 1, InvalidNumber, 1), (0, 0, 3, -1, InvalidNumber, -1),
                (0, 0, 3, False, InvalidNumber, False), (0, 0, 3, None, InvalidNumber, None)]:
            with self.assertRaises(error) as caught:
                read_by(number, first, marks, letter)
            self.assertEqual(repr(caught.exception.value), repr(wrong))

    def test_whole_numbers_in_any_order(self):
        """Never more than u's number if v worked only by what it read, and just this once the last one came."""
        chance = random.Random(224)
        for net, standing in plain.some_cases(60, 225):
            for u, v in roads_of(net):
                first, works, here, came, sent = plain.key_table(net, standing)[u, v], [0] * net[0], standing, [], [0]
                for _ in range(40):
                    house = chance.randrange(net[0])
                    told = read_whole(works[v], first, came)
                    self.assertTrue(works[v] - first <= told <= works[u])
                    if plain.can_work(net, here, house) and (house != v or told - works[v] + first >= 1):
                        here, works[house] = plain.work(net, here, house), works[house] + 1
                    sent.append(works[u])
                    if chance.random() < 0.4:
                        came.append(chance.choice(sent))
                chance.shuffle(came)
                self.assertEqual(read_whole(works[v], first, came + [works[u]]), works[u])

    def test_errors_of_read_whole(self):
        for number, first, letters, wrong in [
                (-1, None, None, -1), (True, 0, [], True), (0, -1, None, -1), (0, None, [], None), (0, 0, None, None),
                (0, 0, (), ()), (0, 0, [-1], [-1]), (0, 0, [True], [True]), (0, 0, ["1"], ["1"]), (0, 0, {}, {}),
                (0, 0, [1, [2]], [1, [2]])]:
            with self.assertRaises(InvalidNumber) as caught:
                read_whole(number, first, letters)
            self.assertEqual(repr(caught.exception.value), repr(wrong))
        self.assertEqual(read_whole(0, 3, []), -3)


class Lines(unittest.TestCase):
    def test_all_of_few_events(self):
        for net, standing in [(TWO, [0]), (TWO, [2]), ((2, [(0, 1, 1)]), [1]), ((3, [(0, 1, 1), (1, 2, 1)]), [1, 0]),
                              ((3, [(0, 1, 1)]), [0]), (RING, [1, 0, 1])]:
            tried = list(range(-1, net[0] + 1)) + list(plain_marks.TOLD) + ["", "Send", "work", None, True, ("send",)]
            for (u, v), marks in itertools.product(roads_of(net), (1, 2, 3)):
                lists = [[]]
                for events in lists:
                    line = line_behind(net, standing, u, v, marks, events)
                    possible = line.possible()
                    self.assertIs(is_line(net, standing, u, v, marks, events), True)
                    self.assertEqual(line_read(net, standing, u, v, marks, events), line.told)
                    self.assertIs(wants(net, standing, u, v, marks, events), line.wants())
                    for event in tried:
                        right = type(event) is not bool and event in possible
                        self.assertIs(is_line(net, standing, u, v, marks, events + [event]), right, (events, event))
                    if len(events) < (3 if net[0] == 2 else 2):
                        lists.extend(events + [event] for event in possible)

    def test_long_ones(self):
        """By any marks never more is read than was sent, and by enough always just this."""
        chance = random.Random(226)
        less = 0
        for net, standing in plain.some_cases(80, 227):
            for u, v in roads_of(net):
                enough = most_there(net, standing, u, v) + 1
                for marks in (enough, enough + chance.randint(1, 3), chance.randint(1, enough)):
                    events = random_line(chance, net, standing, u, v, marks, 50)
                    line = line_behind(net, standing, u, v, marks, events)
                    told = line_read(net, standing, u, v, marks, events)
                    self.assertEqual(told, line.told)
                    self.assertIs(wants(net, standing, u, v, marks, events), line.wants())
                    for at in chance.sample(range(len(events)), 6):
                        if wants(net, standing, u, v, marks, events[:at]):
                            here = line_behind(net, standing, u, v, marks, events[:at])
                            self.assertGreater(plain.key_table(net, here.standing)[u, v], 0)
                    for read, sent in told:
                        self.assertTrue(read == sent if marks >= enough else read <= sent)
                        less += read < sent
                    event = chance.choice(list(range(net[0])) + list(plain_marks.TOLD))
                    self.assertIs(is_line(net, standing, u, v, marks, events + [event]), event in line.possible())
        self.assertGreater(less, 20)

    def test_who_works_by_what(self):
        path, standing = (3, [(0, 1, 1), (1, 2, 1)]), [1, 0]
        for events, right in [([1], False), (["send", "bring", 1], True), (["send", "bring", "fall", 1], False),
                              (["send", "bring", 1, 1], False), ([2], False), ([0], False),
                              (["send", "bring", 1, 2, "send", "bring", 0, "send", "bring", 1], True),
                              (["send", "bring", 1, 0, 2, 1], False), (["send", "lose", "bring"], False),
                              (["send", "double", "bring", "bring"], True), (["send", "double", "lose", "bring"], True),
                              (["send", "double", "bring", "bring", "bring"], False), (["lose"], False),
                              (["double"], False)]:
            self.assertIs(is_line(path, standing, 0, 1, 2, events), right, events)
        # A house without a key on another road cannot work by what it read on this one.
        self.assertFalse(is_line(path, [1, 1], 0, 1, 2, ["send", "bring", 1]))
        self.assertTrue(wants(path, [1, 1], 0, 1, 2, ["send", "bring"]))

    def test_any_values(self):
        for value in any_values() + [["send"], ["send", "bring"], ["fall"], ("send",), [0, "send"], [False], [[0]]]:
            right = repr(value) in ("[]", "['send']", "['send', 'bring']", "['fall']", "['fall', 0]",
                                    "[0, 'send']", "[0]", "[0, 0]")
            self.assertIs(is_line(TWO, [0], 0, 1, 3, value), right, value)
            if not right:
                for call in (line_read, wants):
                    with self.assertRaises(InvalidEvent) as caught:
                        call(TWO, [0], 0, 1, 3, value)
                    self.assertIs(caught.exception.value, value)

    def test_at_the_limits(self):
        chance = random.Random(228)
        net, standing = complete(12, 9), [(7 * at) % 8 + 1 for at in range(66)]
        for u, v in [(0, 11), (7, 3)]:
            events = random_line(chance, net, standing, u, v, 10, 60)
            self.assertEqual(line_read(net, standing, u, v, 10, events),
                             line_behind(net, standing, u, v, 10, events).told)


class Alike(unittest.TestCase):
    cases = [(net, standing) for net in [(2, [(0, 1, 1)]), (2, [(0, 1, 2)]), (3, [(0, 1, 1), (1, 2, 1)]), RING]
             for standing in plain.standings_of(net)] + [(TAIL, [0, 1, 0, 1]), (TAIL, [0, 1, 0, 0]),
                                                         ((2, [(0, 1, 3)]), [2])]

    def test_lines_over_all_that_is_reached(self):
        for net, standing in self.cases:
            for u, v in roads_of(net):
                enough = most_there(net, standing, u, v) + 1
                # v's number is its first keys or less, u's so much more at most.
                numbers = reached_behind_a_fall(net, standing, u, v, enough, enough if net[0] < 4 else 2)
                for marks in range(1, enough + 2):
                    right = any(sent + marks in row for row in numbers.values() for sent in row)
                    found = alike_lines(net, standing, u, v, marks)
                    self.assertEqual(found is not None, right, (net, standing, u, v, marks))
                    if found is not None:
                        self.judge_lines(net, standing, u, v, marks, found, enough)
                    if plain.is_free(net, standing):
                        self.assertIs(right, marks < enough)

    def judge_lines(self, net, standing, u, v, marks, found, enough):
        self.assertIs(type(found), tuple)
        one, other = [line_behind(net, standing, u, v, enough, events) for events in found]
        self.assertEqual([events[-2:] for events in found], [["fall", "bring"]] * 2)
        self.assertEqual(one.works[v], other.works[v])
        self.assertEqual(one.told[-1][1] + marks, other.told[-1][1])
        self.assertIs(are_alike_lines(net, standing, u, v, marks, found), True)
        self.assertIs(are_alike_lines(net, standing, u, v, marks, found[::-1]), False)
        self.assertIs(are_alike_lines(net, standing, u, v, marks + 1, found), False)

    def test_lines_by_the_words(self):
        for net, standing in plain.some_cases(90, 229):
            for u, v in roads_of(net):
                first, last, most = plain.key_table(net, standing)[u, v], most_works(net, standing, v), None
                number = first if last is None else min(first, last)
                row = [works[u] for works in plain.lists_by_runs(net, standing, number + 4) if works[v] == number]
                most = max(row)
                for marks in range(1, most + 3):
                    found = alike_lines(net, standing, u, v, marks)
                    self.assertEqual(found is not None, marks <= most, (net, standing, u, v, marks))
                    if found is not None:
                        self.judge_lines(net, standing, u, v, marks, found, most_there(net, standing, u, v) + 1)

    def test_what_are_alike_lines(self):
        chance = random.Random(230)
        found = {True: 0, False: 0}
        for net, standing in self.cases:
            for u, v in roads_of(net):
                enough = most_there(net, standing, u, v) + 1
                lines = [random_line(chance, net, standing, u, v, enough, chance.randint(0, 8)) for _ in range(6)]
                lines += [events + more for events in lines
                          for more in (["send", "fall", "bring"], ["fall", "bring"], ["send", "bring"])]
                for one, other in chance.sample(list(itertools.product(lines, lines)), 80):
                    pair = [line_behind(net, standing, u, v, enough, events) for events in (one, other)]
                    for marks in (1, 2):
                        right = (None not in pair and one[-2:] == other[-2:] == ["fall", "bring"]
                                 and pair[0].works[v] == pair[1].works[v]
                                 and pair[0].told[-1][1] + marks == pair[1].told[-1][1])
                        found[right] += 1
                        self.assertIs(are_alike_lines(net, standing, u, v, marks, (one, other)), right)
        self.assertGreater(min(found.values()), 40)

    def test_runs_over_all_lists_of_works(self):
        for net, standing in plain.some_cases(80, 231) + [(TAIL, [0, 1, 0, 1]), (TAIL, [0, 1, 0, 0])]:
            lists = plain.lists_by_runs(net, standing, 6 if net[0] < 4 else 4)
            for u, v in roads_of(net):
                rows = {}
                for works in lists:
                    rows.setdefault(works[v], set()).add(works[u])
                for marks in range(1, 7):
                    right = any(many + marks in row for row in rows.values() for many in row)
                    found = alike_runs(net, standing, u, v, marks)
                    self.assertEqual(found is not None, right, (net, standing, u, v, marks))
                    if found is not None:
                        one, other = found
                        self.assertTrue(plain.is_run(net, standing, one) and plain.is_run(net, standing, other))
                        self.assertEqual((one.count(v), one.count(u) + marks), (other.count(v), other.count(u)))
                        self.assertIs(are_alike_runs(net, standing, u, v, marks, found), True)
                        self.assertIs(are_alike_runs(net, standing, u, v, marks, (other, one)), False)

    def test_what_are_alike_runs(self):
        for net, standing in [(TWO, [1]), (PATH, [1, 1]), (RING, [1, 1, 1]), (TAIL, [0, 1, 0, 1])]:
            runs = plain.runs_up_to(net, standing, 4)[:40] + [[1, 1, 1], [0, 9]]
            for (u, v), one, other in itertools.product(roads_of(net), runs, runs):
                for marks in (1, 2):
                    right = (set(one + other) <= set(range(net[0])) and plain.is_run(net, standing, one)
                             and plain.is_run(net, standing, other) and one.count(v) == other.count(v)
                             and one.count(u) + marks == other.count(u))
                    self.assertIs(are_alike_runs(net, standing, u, v, marks, (one, other)), right)

    def test_any_values(self):
        odd = any_values() + [([], [0]), [[], [0]], ([], [0], []), ([],), ([], (0,)), ([], [True]), ((), [0]),
                              (["send", "fall", "bring"], [0, "send", "fall", "bring"]), LATER, list(LATER),
                              (LATER[0], tuple(LATER[1])), (None, None), (LATER[0], None), LATER + ([],)]
        for value in odd:
            right = repr(value) == "([], [0])"
            self.assertIs(are_alike_runs(TWO, [0], 0, 1, 1, value), right, value)
            right = repr(value) == repr((["send", "fall", "bring"], [0, "send", "fall", "bring"]))
            self.assertIs(are_alike_lines(TWO, [0], 0, 1, 1, value), right, value)
            self.assertIs(are_alike_lines(TWO, [0], 0, 1, 2, value), repr(value) == repr(LATER), value)


class Late(unittest.TestCase):
    def plain_late(self, net, standing, u, v, marks, run, place):
        """Whether v, behind a whole run, reads more than u's number of a letter sent behind so many of its works."""
        least = run.count(v) - plain.key_table(net, standing)[u, v]
        letter = run[:place].count(u) % marks
        return [y for y in range(least, least + marks) if y % marks == letter][0] > run.count(u)

    def test_over_all_runs(self):
        for net, standing in Alike.cases + plain.some_cases(25, 232):
            runs = plain.runs_up_to(net, standing, 7 if net[0] < 4 else 5)
            if len(runs) > 1500:
                continue
            for u, v in roads_of(net):
                last = most_works(net, standing, v)
                first = plain.key_table(net, standing)[u, v]
                for marks in (1, 2, 3, 5):
                    found = late_letter(net, standing, u, v, marks)
                    right = ((last is None or last > first)
                             and marks >= first + 2 - plain.least_length(net, standing, [u], v))
                    self.assertEqual(found is not None, right)
                    if right:
                        self.assertTrue(plain.is_run(net, standing, found[0]))
                        self.assertTrue(0 <= found[1] <= len(found[0]))
                        self.assertTrue(self.plain_late(net, standing, u, v, marks, *found))
                        self.assertIs(is_late_letter(net, standing, u, v, marks, found), True)
                    for run in runs[::max(1, len(runs) // 40)]:
                        for place in range(len(run) + 1):
                            late = self.plain_late(net, standing, u, v, marks, run, place)
                            self.assertTrue(right or not late)
                            self.assertIs(is_late_letter(net, standing, u, v, marks, (run, place)), late)
                    if not right:
                        self.assertFalse(any(self.plain_late(net, standing, u, v, marks, run, place)
                                             for run in runs for place in range(len(run) + 1)))

    def test_best_roads_have_one_for_every_number_of_marks(self):
        for net, standing in plain.some_cases(60, 233):
            for (u, v), keys in plain.key_table(net, standing).items():
                self.assertIsNone(late_letter(net, standing, u, v, 1))
                if plain.is_free(net, standing) and plain.least_length(net, standing, [u], v) == keys:
                    for marks in (2, 3, 4, 7, 100, 10 ** 29):
                        self.assertIsNotNone(late_letter(net, standing, u, v, marks))

    def test_any_values(self):
        for value in any_values() + [([0, 0, 1, 1, 0, 1], 1), ([0, 0, 1, 1, 0, 1], True), [[0, 0, 1, 1, 0, 1], 1],
                                     ([0, 0, 1, 1, 0, 1], 7), ([0, 0, 1, 1, 0, 1], -1), ([1], 0), ((0, 0), 0),
                                     ([0, 0, 1, 1, 0, 1], 1, 0), ([0, 1, True], 0), ([0, 1], None)]:
            right = repr(value) == "([0, 0, 1, 1, 0, 1], 1)"
            self.assertIs(is_late_letter(TWO, [0], 0, 1, 3, value), right, value)


class Errors(unittest.TestCase):
    def test_houses_and_marks(self):
        by_marks = [lambda *told: alike_lines(*told), lambda *told: are_alike_lines(*told, None),
                    lambda *told: alike_runs(*told), lambda *told: are_alike_runs(*told, None),
                    lambda *told: late_letter(*told), lambda *told: is_late_letter(*told, None),
                    lambda *told: is_line(*told, None), lambda *told: line_read(*told, None),
                    lambda *told: wants(*told, None)]
        for call in by_marks + [lambda *told: spread(*told[:-1]), lambda *told: enough_marks(*told[:-1])]:
            for u, v, wrong in [(3, None, 3), (True, 0, True), (0, 2, 2), (0, 0, 0), (0, True, True), (None, 1, None),
                                (2, 0, 0)]:
                with self.assertRaises(InvalidHouse) as caught:
                    call(PATH, [1, 0], u, v, None)
                self.assertIs(caught.exception.value, wrong)
        for call in by_marks:
            for wrong in (0, -1, True, None, "1", [1], (1,)):
                with self.assertRaises(InvalidMarks) as caught:
                    call(PATH, [1, 0], 0, 1, wrong)
                self.assertIs(caught.exception.value, wrong)


if __name__ == "__main__":
    unittest.main()
