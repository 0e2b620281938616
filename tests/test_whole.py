"""The whole program: one net and one script by all roads tell the same.

What is drawn here is drawn by the rule that stands in `Rule`.
"""

import unittest

from keyroads.beats import starts, turning
from keyroads.bits import disk_size, small_after
from keyroads.changes import counts_with, house_out, key_in, key_out, places_for, ring_by, road_in, road_out
from keyroads.classes import later_standings
from keyroads.counts import (are_counts, count_way, counts, counts_behind, ending_run, is_ending, last_standing)
from keyroads.engine import (counts_without, is_quiet, round_behind, rounds_to_quiet, rounds_without, script_for,
                             with_rounds)
from keyroads.goals import goal_run, goal_standing, goal_works
from keyroads.histories import behind, first_stuck, is_history, taken_back
from keyroads.knowing import all_known, can_have_worked, known, surely_able
from keyroads.leads import fewest_keys, lead, lead_run, most_keys
from keyroads.lines import line_of, of_line
from keyroads.lists import are_works, run_for
from keyroads.logs import log_of, mended, replayed, resumed, script_of, snapshot, state_of_snapshot
from keyroads.marks import enough_marks, line_read, spread
from keyroads.needed import needed, window
from keyroads.nets import directions, is_standing, joined_parts, least_lengths, neighbours, way_length
from keyroads.network import Network, is_deed
from keyroads.parcels import lost_road, repair
from keyroads.rates import rates
from keyroads.reach import works_between
from keyroads.silence import are_enough, is_quiet_script, quiet_script_of, quiet_state, unsafe_script
from keyroads.stuck import stuck_houses, stuck_ring
from keyroads.wire import (believed, believing, flushed, gone_on, is_event, is_script, left_counts, meant, run_of,
                           state_after)
from keyroads.works import able, behind_works, done, is_run, run_to_end, works_of


class Rule:
    """Numbers one behind the other, each told by the one ahead of it."""

    def __init__(self, seed):
        self.number = seed

    def below(self, many):
        self.number = (self.number * 1103515245 + 12345) % 2 ** 31
        return (self.number >> 12) % many

    def one_of(self, items):
        return items[self.below(len(items))]

    def net(self, houses):
        """A net of so many houses, two of three pairs with a road of up to three keys, and a standing of it."""
        roads = [(low, high, 1 + self.below(3)) for low in range(houses) for high in range(low + 1, houses)
                 if self.below(3)]
        return (houses, roads), [self.below(many + 1) for _, _, many in roads]

    def resting(self, houses):
        return [house for house in range(houses) if self.below(3) == 0]

    def script(self, net, standing, many):
        """So many events, each drawn among those that are possible, and fewer falls, losses and rests than others."""
        events = []
        for _ in range(many):
            pairs, houses = directions(net), range(net[0])
            choice = [("work", house) for house in houses for _ in range(4)]
            choice += [(word, u, v) for u, v in pairs for word in ("send", "bring", "bring")]
            choice += [(word, u, v, place) for u, v in pairs for word in ("lose", "double") for place in (0, 1)
                       if self.below(3) == 0]
            choice += [(word, house) for house in houses for word in ("fall", "rest") if self.below(4) == 0]
            choice = [event for event in choice if is_event(net, standing, events, event)]
            if choice:
                events.append(self.one_of(choice))
        return events


def cases(many, seed, houses=(1, 2, 3, 3, 4, 4, 5)):
    """Nets, standings and resting houses."""
    rule = Rule(seed)
    for _ in range(many):
        net, standing = rule.net(rule.one_of(houses))
        yield rule, net, standing, rule.resting(net[0])


class HowOften(unittest.TestCase):
    """How often each house works while some rest: by runs, leads, goals, letters, rounds, dead lines and deeds."""

    def test_one_number_by_all_roads(self):
        ended = 0
        for rule, net, standing, resting in cases(150, 1):
            told = counts(net, standing, resting)
            self.assertTrue(are_counts(net, standing, resting, told))
            for house in range(net[0]):
                way = count_way(net, standing, resting, house)
                self.assertEqual(told[house], None if way is None else way_length(net, standing, way))
            self.judge_lines(net, standing, resting, told)
            if None in told:
                self.assertIsNone(last_standing(net, standing, resting))
                self.assertIsNone(ending_run(net, standing, resting, [1, 2]))
                continue
            ended += 1
            picks = [rule.below(9) for _ in range(20)]
            for run in (run_to_end(net, standing, resting), ending_run(net, standing, resting, picks)):
                self.assertEqual(works_of(net, run), told)
                self.assertTrue(is_ending(net, standing, resting, run))
                self.assertEqual(done(net, standing, run), last_standing(net, standing, resting))
                self.assertEqual(counts_behind(net, standing, resting, run), [0] * net[0])
            last = last_standing(net, standing, resting)
            self.assertEqual(works_between(net, standing, last), told)
            self.assertEqual(behind_works(net, standing, told), last)
            self.assertTrue(are_works(net, standing, told))
            self.judge_wire(net, standing, resting, told, picks)
            self.judge_deeds(rule, net, standing, resting, told)
        self.assertGreater(ended, 60)

    def judge_lines(self, net, standing, resting, told):
        """Lines that never bring hold houses as if these rested."""
        dead = [(u, v) for u, v in directions(net) if v in resting]
        alone = [house for house in resting if not neighbours(net, house)]
        self.assertEqual(counts_without(net, standing, alone, dead), told)
        self.assertEqual(counts_without(net, standing, resting, dead), told)
        script = rounds_without(net, standing, alone, dead, 12)
        works = works_of(net, run_of(script))
        self.assertTrue(all(most is None or many <= most for many, most in zip(works, told)))
        rested = with_rounds(net, standing, [("rest", house) for house in resting], 12)
        self.assertEqual(run_of(script), run_of(rested))

    def judge_wire(self, net, standing, resting, told, picks):
        """Letters and rounds, from the beginning on, with all that rest resting ahead of the first work."""
        events = [("rest", house) for house in resting]
        last = last_standing(net, standing, resting)
        self.assertEqual(left_counts(net, standing, events), told)
        for script in (gone_on(net, standing, events, picks),
                       with_rounds(net, standing, events, rounds_to_quiet(net, standing, events))):
            self.assertEqual(works_of(net, run_of(script)), told)
            self.assertEqual(meant(net, standing, script), last)
            self.assertEqual(left_counts(net, standing, script), [0] * net[0])
            self.assertEqual(believing(net, standing, script), [])
        self.assertTrue(is_quiet(net, standing, script))

    def judge_deeds(self, rule, net, standing, resting, told):
        """A live network in which somebody works as long as anybody can."""
        network = Network(net, standing)
        for house in resting:
            network.do(("rest", house))
        self.assertEqual(network.left(), told)
        self.assertEqual(network.last(), last_standing(net, standing, resting))
        works = [0] * net[0]
        while network.ready():
            house = rule.one_of(network.ready())
            network.do(("work", house))
            works[house] += 1
            self.assertEqual([one + two for one, two in zip(works, network.left())], told)
        self.assertEqual(works, told)
        self.assertEqual(network.standing(), network.last())
        history = [deed for deed in network.log() if deed[0] == "work"]
        self.assertEqual(behind(net, standing, history), (net, network.standing()))

    def test_one_that_rests_by_leads_and_goals(self):
        for _, net, standing, _ in cases(80, 2):
            stuck = stuck_houses(net, standing)
            for one in range(net[0]):
                told = counts(net, standing, [one])
                self.assertEqual(told, [lead(net, standing, one, other) for other in range(net[0])])
                if not stuck:
                    self.assertEqual(told, least_lengths(net, standing, one))
                if not stuck and len(joined_parts(net)) == 1:
                    self.assertEqual(told, goal_works(net, standing, one))
                    self.assertEqual(works_of(net, goal_run(net, standing, one)), told)
                    self.assertEqual(goal_standing(net, standing, one), last_standing(net, standing, [one]))
                for other in range(net[0]):
                    run = lead_run(net, standing, one, other)
                    if run is not None:
                        self.assertEqual(run.count(other) - run.count(one), told[other])

    def test_a_road_is_lost(self):
        for _, net, standing, _ in cases(80, 3):
            if stuck_ring(net, standing) or len(joined_parts(net)) > 1:
                continue
            for u, v in directions(net):
                there = lost_road(net, standing, u, v)
                self.assertEqual(there, road_out(net, standing, v, u))
                self.assertEqual(behind(net, standing, [("out", u, v)]), there)
                for goal in range(net[0]):
                    home = road_out(net, goal_standing(net, standing, goal), u, v)
                    self.assertEqual(repair(net, standing, goal, u, v), counts(*home, [goal]))


class Scripts(unittest.TestCase):
    """One script by the wire, logs, snapshots, small disks, silence, knowledge, rounds and deeds."""

    def test_one_state_by_all_roads(self):
        for rule, net, standing, _ in cases(60, 4):
            events = rule.script(net, standing, 30)
            state = state_after(net, standing, events)
            works, resting, heard, lines = state
            self.assertTrue(is_script(net, standing, events))
            text = log_of(net, standing, events)
            self.assertEqual(script_of(net, standing, text), events)
            self.assertEqual(mended(net, standing, text + "torn"), text)
            self.assertEqual(replayed(net, standing, text), state)
            self.assertEqual(state_of_snapshot(net, snapshot(net, standing, events)), state)
            for at in (0, len(events) // 2, len(events)):
                self.assertEqual(resumed(net, standing, snapshot(net, standing, events[:at]), events[at:]), state)
            rests, small_resting, keys, small_lines = small_after(net, standing, events)
            self.assertEqual(rests, [many % disk_size(net, house) for house, many in enumerate(works)])
            self.assertEqual((small_resting, small_lines), (resting, lines))
            self.assertEqual(keys, [believed(net, standing, events, u, v) for u, v in directions(net)])
            if stuck_ring(net, standing) is None:
                every = directions(net)
                self.assertTrue(is_quiet_script(net, standing, every, events))
                self.assertEqual(quiet_state(net, standing, every, events), state)
            self.judge_run(net, standing, events, works, resting)
            self.judge_knowledge(net, standing, events, works)

    def judge_run(self, net, standing, events, works, resting):
        """The run of a script, the standing that it means, and how it goes on."""
        run, here = run_of(events), meant(net, standing, events)
        self.assertTrue(is_run(net, standing, run))
        self.assertEqual(works_of(net, run), works)
        self.assertTrue(is_standing(net, here))
        self.assertEqual(done(net, standing, run), here)
        self.assertEqual(behind_works(net, standing, works), here)
        self.assertEqual(run_of(script_for(net, standing, run)), run)
        self.assertEqual(stuck_houses(net, here), stuck_houses(net, standing))
        self.assertEqual(left_counts(net, standing, events), counts(net, here, resting))
        network = Network(net, standing)
        for house in run:
            network.do(("work", house))
        for house in resting:
            network.do(("rest", house))
        self.assertEqual(network.line(), line_of(net, here))
        self.assertEqual(of_line(network.line()), (net, here))
        self.assertEqual(network.left(), left_counts(net, standing, events))
        self.assertEqual(run_of(round_behind(net, standing, events)), network.ready())
        self.assertEqual(believing(net, standing, flushed(net, standing, events)), network.ready())
        self.assertTrue(set(believing(net, standing, events)) <= set(network.ready()))
        if not resting:
            self.assertEqual(network.ready(), able(net, here))
            rounds = run_of(with_rounds(net, standing, events, 5))[len(run):]
            beats = starts(net, here, [1] * net[0], 5)
            self.assertEqual(rounds, [house for beat in beats for house in beat])

    def judge_knowledge(self, net, standing, events, works):
        for house in range(net[0]):
            self.assertTrue(can_have_worked(net, standing, events, house, works))
            bounds = all_known(net, standing, events, house)
            for other, (least, most) in enumerate(bounds):
                self.assertTrue(least <= works[other] and (most is None or works[other] <= most))
                # Who holds nothing knows what its own number tells.
                fallen = known(net, standing, events + [("fall", house)], house, other)
                self.assertEqual(fallen, window(net, standing, other, [(house, works[house])]))
            able_now = able(net, meant(net, standing, events))
            self.assertTrue(set(surely_able(net, standing, events, house)) <= set(able_now))

    def test_needed_lines_alone(self):
        for rule, net, standing, _ in cases(60, 5):
            if stuck_ring(net, standing) is not None:
                continue
            asked = needed(net, standing)
            self.assertTrue(are_enough(net, standing, asked))
            self.assertIsNone(unsafe_script(net, standing, asked))
            run = run_for(net, standing, [rule.below(2)] * net[0])
            script = quiet_script_of(net, standing, asked, run)
            self.assertEqual(quiet_state(net, standing, asked, script)[0], works_of(net, run))
            for lacking in asked:
                self.assertIsNotNone(unsafe_script(net, standing, [pair for pair in asked if pair != lacking]))

    def test_marks_and_windows(self):
        for _, net, standing, _ in cases(60, 6):
            for u, v in directions(net):
                many = dict((road[:2], road[2]) for road in net[1])[min(u, v), max(u, v)]
                self.assertEqual(enough_marks(net, standing, u, v), many - fewest_keys(net, standing, v, u) + 1)
                self.assertEqual(enough_marks(net, standing, u, v), most_keys(net, standing, u, v) + 1)
                widths = []
                for number in range(8):
                    row = window(net, standing, u, [(v, number)])
                    if row is not None:
                        widths.append(row[1] - row[0])
                self.assertEqual(spread(net, standing, u, v), max(widths))

    def test_one_line_and_the_wire(self):
        """Letters by as many marks as the wire has tell on one line what they tell there."""
        for rule, net, standing, _ in cases(60, 7):
            for u, v in directions(net)[:2]:
                marks = dict((road[:2], road[2]) for road in net[1])[min(u, v), max(u, v)] + 1
                events, line, script = [], [], []
                for house in run_of(with_rounds(net, standing, [], 4)):
                    for other in neighbours(net, house):
                        script += [("send", other, house), ("bring", other, house)]
                        if (other, house) == (u, v):
                            line += ["send", "bring"]
                            heard = line_read(net, standing, u, v, marks, line)[-1]
                            index = directions(net).index((u, v))
                            self.assertEqual(heard, (state_after(net, standing, script)[2][index],) * 2)
                    script.append(("work", house))
                    line.append(house)
                    events.append(house)
                self.assertEqual(run_of(script), events)


class Changes(unittest.TestCase):
    """One history by changes, histories, networks and lines."""

    def history(self, rule, net, standing, many):
        network = Network(net, standing)
        for _ in range(many):
            houses = range(network.net()[0])
            choice = [(word, u, v) for word in ("out", "more", "less") for u in houses for v in houses]
            choice += [("in", u, v, rule.below(3), rule.below(3)) for u in houses for v in houses]
            choice += [(word, house) for house in houses for word in ("work", "work", "gone")]
            choice += [("house", [(house, rule.below(3), 1) for house in houses if rule.below(2)])]
            choice = [deed for deed in choice if is_deed(network, deed)]
            if choice:
                network.do(rule.one_of(choice))
        return network

    def test_one_end_by_all_roads(self):
        for rule, net, standing, _ in cases(60, 8):
            network = self.history(rule, net, standing, 8)
            history = network.log()
            self.assertTrue(is_history(net, standing, history))
            self.assertEqual(behind(net, standing, history), (network.net(), network.standing()))
            self.assertEqual(of_line(network.line()), (network.net(), network.standing()))
            stuck = first_stuck(net, standing, history)
            back = taken_back(net, standing, history)
            if back is not None:
                twin = network.copy()
                for deed in back:
                    twin.do(deed)
                self.assertEqual((twin.net(), twin.standing()), (net, standing))
            for at in reversed(range(len(history) + 1)):
                ring = stuck_ring(network.net(), network.standing())
                self.assertEqual(network.stuck() == [], ring is None)
                if stuck is not None and at == stuck[0] + 1:
                    self.assertEqual(ring, stuck[1])
                if stuck is None or at <= stuck[0]:
                    self.assertIsNone(ring)
                if at:
                    network.undo()
            self.assertEqual((network.net(), network.standing(), network.log()), (net, standing, []))

    def test_roads_keys_and_counts(self):
        for rule, net, standing, resting in cases(60, 9):
            before = counts(net, standing, resting)
            for u in range(net[0]):
                for v in range(net[0]):
                    if u == v:
                        continue
                    if v in neighbours(net, u):
                        self.assertEqual(key_out(*key_in(net, standing, u, v), u, v), (net, standing))
                        continue
                    many = 1 + rule.below(3)
                    for at_u in range(many + 1):
                        there = road_in(net, standing, u, v, at_u, many - at_u)
                        self.assertEqual(counts_with(net, standing, resting, u, v, at_u, many - at_u),
                                         counts(*there, resting))
                        free = at_u in places_for(net, standing, u, v, many)
                        self.assertEqual(ring_by(net, standing, u, v, at_u, many - at_u) is None, free)
                        if free:
                            self.assertEqual(stuck_houses(*there), stuck_houses(net, standing))
                        self.assertEqual(road_out(*there, v, u), (net, standing))
            for house in range(net[0]):
                if net[0] > 1 and before[house] is not None and not neighbours(net, house):
                    left = [other - (other > house) for other in resting if other != house]
                    there = house_out(net, standing, house)
                    self.assertEqual(counts(*there, left), before[:house] + before[house + 1:])

    def test_later_standings_by_deeds(self):
        for rule, net, standing, _ in cases(25, 10, (2, 3, 3)):
            found, waiting = {tuple(standing)}, [Network(net, standing)]
            for network in waiting:
                for house in network.ready():
                    twin = network.copy()
                    twin.do(("work", house))
                    if tuple(twin.standing()) not in found:
                        found.add(tuple(twin.standing()))
                        waiting.append(twin)
            self.assertEqual(later_standings(net, standing), [list(keys) for keys in sorted(found)])

    def test_rates_are_those_of_rounds(self):
        for _, net, standing, _ in cases(40, 11, (1, 2, 3, 4)):
            ahead, turn = turning(net, standing, [1] * net[0])
            many = len(ahead) + 2 * len(turn)
            run = run_of(with_rounds(net, standing, [], many))[len([h for beat in ahead for h in beat]):]
            for house, (above, below) in enumerate(rates(net, standing, [1] * net[0])):
                self.assertEqual(run.count(house) * below, above * 2 * len(turn))


if __name__ == "__main__":
    unittest.main()
