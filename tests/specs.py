"""For each function of the interface: its arguments, and what it refuses, in this order.

Judged anew here, without the package. A check takes all arguments by name and
returns whether they pass it; behind it stand the error and the name of the argument
that the error holds, or what tells, of all arguments, what it holds instead.
"""

import copy
import math

from keyroads.errors import (InvalidEvent, InvalidHouse, InvalidHouses, InvalidLine, InvalidMarks, InvalidNet,
                             InvalidNumber, InvalidRing, InvalidRun, InvalidScript, InvalidStanding, InvalidTimes,
                             InvalidWay, InvalidWorks, Unlike)
from tests import plain, plain_changes, plain_logs, plain_marks, plain_wire


def whole(value, least=0):
    return type(value) is int and value >= least


def list_of(value, judge):
    return type(value) is list and all(judge(item) for item in value)


def rising(items):
    return all(one < two for one, two in zip(items, items[1:]))


def good_net(value):
    if type(value) is not tuple or len(value) != 2 or not whole(value[0], 1) or type(value[1]) is not list:
        return False
    for road in value[1]:
        if type(road) is not tuple or len(road) != 3 or not all(whole(item) for item in road):
            return False
        if not (road[0] < road[1] < value[0] and road[2] >= 1):
            return False
    return value[1] == sorted(value[1]) and len({road[:2] for road in value[1]}) == len(value[1])


def good_house(net, value):
    return whole(value) and value < net[0]


def good_standing(net, value):
    return (list_of(value, whole) and len(value) == len(net[1])
            and all(keys <= road[2] for keys, road in zip(value, net[1])))


def good_resting(net, value):
    return list_of(value, lambda item: good_house(net, item)) and rising(value)


def good_works(net, value):
    return list_of(value, whole) and len(value) == net[0]


def good_run(net, standing, value, resting=()):
    return (list_of(value, lambda item: good_house(net, item)) and not set(value) & set(resting)
            and plain.is_run(net, standing, value))


def good_direction(net, value):
    return (type(value) is tuple and len(value) == 2 and all(good_house(net, item) for item in value)
            and value[1] in plain.near(net, value[0]))


def good_directions(net, value):
    return list_of(value, lambda item: good_direction(net, item)) and rising(value)


def good_wanted(net, value):
    return list_of(value, lambda item: good_direction(net, item)) and len(set(value)) == len(value)


def good_way(net, value):
    return (list_of(value, lambda item: good_house(net, item)) and value != []
            and all(two in plain.near(net, one) for one, two in zip(value, value[1:])))


def good_ring(net, value):
    return (good_way(net, value) and len(value) >= 3 and len(set(value)) == len(value) and value[0] == min(value)
            and value[0] in plain.near(net, value[-1]))


def good_moves(net, standing, value):
    if not good_directions(net, value):
        return False
    table = plain.key_table(net, standing)
    return all(table[v, u] >= 1 and (v, u) not in value for u, v in value)


def good_known(net, value):
    def fits(item):
        return type(item) is tuple and len(item) == 2 and good_house(net, item[0]) and whole(item[1])
    return list_of(value, fits) and rising([item[0] for item in value])


def good_period(value):
    return (type(value) is tuple and len(value) == 2 and all(whole(item, 1) for item in value)
            and math.gcd(*value) == 1)


def has_numbers(net, standing, times, period):
    """Whether each house, road and ring of a net lets works begin so often."""
    above, below = period
    return all(ratio * above >= below for ratio in plain.ratio_table(net, standing, times).values())


def keys_of(net, u, v):
    return [many for low, high, many in net[1] if {low, high} == {u, v}][0]


def good_told(value):
    return (type(value) is tuple and value != () and type(value[0]) is str
            and (value[0] != "work" or len(value) == 2 and whole(value[1])))


def quiet(arguments):
    """Whether the events are possible with letters on the asked lines alone."""
    wire = plain_wire.QuietWire(arguments["net"], arguments["standing"], arguments["asked"])
    return plain_wire.goes_through(wire, arguments["events"])


def on_line(arguments):
    """Whether the events are possible on the line from u to v."""
    told = [arguments[name] for name in ("net", "standing", "u", "v", "marks", "events")]
    return plain_marks.line_behind(*told) is not None


def whole_log(arguments):
    """How many lines of the text are those of a log, and whether they are all of it."""
    events, length = plain_logs.plain_read(arguments["net"], arguments["standing"], arguments["text"])
    return len(events), length == len(arguments["text"])


def told_state(arguments):
    """The state of a snapshot, or the number of its first wrong line."""
    return plain_logs.plain_state(arguments["net"], arguments["text"])


def goes_on_from(arguments):
    """Whether the events are possible from the state of a snapshot on; its letters are numbers with these rests."""
    wire = plain_wire.QuietWire(arguments["net"], arguments["standing"], sorted(plain.key_table(
        arguments["net"], arguments["standing"])))
    wire.works, wire.resting, heard, lines = told_state(arguments)
    wire.heard = dict(zip(wire.asked, heard))
    wire.lines = dict(zip(wire.asked, lines))
    return plain_wire.goes_through(wire, arguments["events"])


def not_done(arguments):
    """The changes of the history that cannot be done in their turn, the first one first."""
    here = (arguments["net"], arguments["standing"])
    for at, change in enumerate(arguments["history"]):
        here = plain_changes.changed(*here, change)
        if here is None:
            return arguments["history"][at:]
    return []


def keys_there(arguments):
    return plain.key_table(arguments["net"], arguments["standing"])[arguments["u"], arguments["v"]]


def house_check(name):
    return (lambda a: good_house(a["net"], a[name]), InvalidHouse, name)


def least_one(name):
    return (lambda a: whole(a[name], 1), InvalidNumber, name)


def neighbour_check(one, other):
    return (lambda a: good_house(a["net"], a[other]) and a[other] in plain.near(a["net"], a[one]), InvalidHouse, other)


NET = (lambda a: good_net(a["net"]), InvalidNet, "net")
STANDING = (lambda a: good_standing(a["net"], a["standing"]), InvalidStanding, "standing")
BOTH = [NET, STANDING]
FREE = BOTH + [(lambda a: plain.stuck_rings(a["net"], a["standing"]) == [], InvalidStanding, "standing")]
HOUSE = house_check("house")
RESTING = (lambda a: good_resting(a["net"], a["resting"]), InvalidHouses, "resting")
REST = BOTH + [RESTING]
WORKS = (lambda a: good_works(a["net"], a["works"]), InvalidWorks, "works")
RUN = (lambda a: good_run(a["net"], a["standing"], a["run"]), InvalidRun, "run")
RUN_PAST = (lambda a: good_run(a["net"], a["standing"], a["run"], a["resting"]), InvalidRun, "run")
LIST_OF_HOUSES = (lambda a: list_of(a["run"], lambda item: good_house(a["net"], item)), InvalidRun, "run")
WAY = (lambda a: good_way(a["net"], a["way"]), InvalidWay, "way")
RING = (lambda a: good_ring(a["net"], a["ring"]), InvalidRing, "ring")
SOME = (lambda a: good_directions(a["net"], a["some"]), InvalidWay, "some")
MOVES = (lambda a: good_moves(a["net"], a["standing"], a["moves"]), InvalidWay, "moves")
KNOWN = (lambda a: good_known(a["net"], a["known"]), InvalidWorks, "known")
PICKS = (lambda a: list_of(a["picks"], whole), InvalidNumber, "picks")
TWO_HOUSES = BOTH + [house_check("one"), house_check("other")]
ROAD = BOTH + [house_check("one"), neighbour_check("one", "other")]
CAN = (lambda a: plain.can_work(a["net"], a["standing"], a["house"]), InvalidHouse, "house")
TWO_RUNS = BOTH + [(lambda a: good_run(a["net"], a["standing"], a["one"]), InvalidRun, "one"),
                   (lambda a: good_run(a["net"], a["standing"], a["other"]), InvalidRun, "other"),
                   (lambda a: sorted(a["one"]) == sorted(a["other"]), Unlike, "other")]
OTHER = (lambda a: good_standing(a["net"], a["other"]), InvalidStanding, "other")
WANTED = (lambda a: good_wanted(a["net"], a["wanted"]), InvalidHouses, "wanted")
JOINED = [NET, (lambda a: plain.is_joined(a["net"]), InvalidNet, "net")]
JOINED_FREE = JOINED + [STANDING, FREE[-1]]
GOAL = house_check("goal")
TWO_GOALS = JOINED_FREE + [house_check("one"), house_check("other")]
LOSS = [house_check("one"), neighbour_check("one", "other")]
TIMED = BOTH + [(lambda a: list_of(a["times"], lambda item: whole(item, 1) and item <= 9)
                 and len(a["times"]) == a["net"][0], InvalidTimes, "times")]
BEATS = (lambda a: whole(a["many"]) and a["many"] <= 500, InvalidNumber, "many")
PERIOD = TIMED + [(lambda a: good_period(a["period"]), InvalidNumber, "period")]
IN_TIME = (lambda a: has_numbers(a["net"], a["standing"], a["times"], a["period"]), InvalidNumber, "period")
SCRIPT = BOTH + [(lambda a: plain_wire.is_script(a["net"], a["standing"], a["events"]), InvalidScript, "events")]
TO = [house_check("u"), neighbour_check("u", "v")]
OWN = (lambda a: whole(a["own"]), InvalidNumber, "own")
LETTER = (lambda a: whole(a["letter"]) and a["letter"] <= keys_of(a["net"], a["u"], a["v"]), InvalidNumber, "letter")
TOLD = (lambda a: list_of(a["events"], good_told), InvalidScript, "events")
AHEAD = BOTH + [house_check("u"), least_one("i"), house_check("v"), (lambda a: a["v"] != a["u"], InvalidHouse, "v"),
                least_one("j")]
ASKED = (lambda a: good_directions(a["net"], a["asked"]), InvalidWay, "asked")
ENOUGH = (lambda a: set(plain.needed_ones(a["net"], a["standing"])) <= set(a["asked"]), InvalidWay, "asked")
QUIET = (quiet, InvalidScript, "events")
TOLD_BY = BOTH + TO + [(lambda a: whole(a["marks"], 1), InvalidMarks, "marks")]
ON_LINE = (on_line, InvalidEvent, "events")
COUNT = [(lambda a, name=name: whole(a[name]), InvalidNumber, name) for name in ("number", "first")]
MARKS_LETTER = (lambda a: whole(a["letter"]) and a["letter"] < a["marks"], InvalidNumber, "letter")
LETTERS = (lambda a: list_of(a["letters"], whole), InvalidNumber, "letters")
DEAD = (lambda a: good_directions(a["net"], a["dead"]), InvalidHouses, "dead")
MANY = (lambda a: whole(a["many"]), InvalidNumber, "many")
TEXT = (lambda a: type(a["text"]) is str, InvalidLine, "text")
LOG = (lambda a: whole_log(a)[1], InvalidLine, lambda a: whole_log(a)[0])
SNAPSHOT = (lambda a: type(told_state(a)) is tuple, InvalidLine, told_state)
GOES_ON = (goes_on_from, InvalidScript, "events")
APART = BOTH + [house_check("u"), house_check("v"),
                (lambda a: a["u"] != a["v"] and a["v"] not in plain.near(a["net"], a["u"]), InvalidHouse, "v")]
KEYS_AT = [(lambda a: whole(a["at_u"]), InvalidNumber, "at_u"),
           (lambda a: whole(a["at_v"]) and a["at_u"] + a["at_v"] > 0, InvalidNumber, "at_v")]
LESS = (lambda a: keys_there(a) > 0 and keys_of(a["net"], a["u"], a["v"]) > 1, InvalidNumber, keys_there)
ENDS = (lambda a: plain_changes.fits_ends(a["net"], a["ends"]), InvalidHouses, "ends")
NOT_ALONE = (lambda a: a["net"][0] > 1, InvalidHouse, "house")
HISTORY = BOTH + [(lambda a: type(a["history"]) is list, InvalidScript, "history"),
                  (lambda a: not_done(a) == [], InvalidScript, lambda a: not_done(a)[0])]
LINE = (lambda a: plain_logs.plain_of(a["line"]) is not None, InvalidLine, "line")

SPECS = {
    "nets": {
        "is_net": ("value", []),
        "is_standing": ("net value", [NET]),
        "neighbours": ("net house", [NET, HOUSE]),
        "directions": ("net", [NET]),
        "joined_parts": ("net", [NET]),
        "keys_at": ("net standing one other", ROAD),
        "how_many_standings": ("net", [NET]),
        "all_standings": ("net", [NET]),
        "is_way": ("net value", [NET]),
        "is_ring": ("net value", [NET]),
        "way_length": ("net standing way", BOTH + [WAY]),
        "ring_length": ("net standing ring", BOTH + [RING]),
        "rings": ("net", [NET]),
        "least_lengths": ("net standing house", BOTH + [HOUSE]),
        "shortest_way": ("net standing one other", TWO_HOUSES),
    },
    "works": {
        "can_work": ("net standing house", BOTH + [HOUSE]),
        "able": ("net standing", BOTH),
        "work": ("net standing house", BOTH + [HOUSE, CAN]),
        "is_run": ("net standing value", BOTH),
        "done": ("net standing run", BOTH + [RUN]),
        "works_of": ("net run", [NET, LIST_OF_HOUSES]),
        "behind_works": ("net standing works", BOTH + [WORKS]),
        "run_to_end": ("net standing resting", REST),
    },
    "lists": {
        "are_works": ("net standing value", BOTH),
        "run_for": ("net standing works", BOTH + [WORKS]),
        "bar_of": ("net standing works", BOTH + [WORKS]),
        "is_bar": ("net standing works value", BOTH + [WORKS]),
        "how_many_runs": ("net standing works", BOTH + [WORKS]),
        "all_runs": ("net standing works", BOTH + [WORKS]),
        "always_ahead": ("net standing u i v j", AHEAD),
        "needed_works": ("net standing house number",
                         BOTH + [HOUSE, (lambda a: whole(a["number"]), InvalidNumber, "number")]),
        "steps_between": ("net standing one other", TWO_RUNS),
        "led_over": ("net standing one other", TWO_RUNS),
    },
    "stuck": {
        "stuck_ring": ("net standing", BOTH),
        "stuck_rings": ("net standing", BOTH),
        "is_stuck_ring": ("net standing value", BOTH),
        "numbering": ("net standing", BOTH),
        "is_numbering": ("net standing value", BOTH),
        "stuck_houses": ("net standing", BOTH),
        "never_working": ("net standing", BOTH),
        "held_by": ("net standing house", BOTH + [HOUSE]),
        "put_ahead": ("net standing moves", BOTH + [MOVES]),
        "freeing": ("net standing", BOTH),
        "is_freeing": ("net standing value", BOTH),
        "how_many_free": ("net", [NET]),
    },
    "counts": {
        "counts": ("net standing resting", REST),
        "count_way": ("net standing resting house", REST + [HOUSE]),
        "is_count_way": ("net standing resting house value", REST + [HOUSE]),
        "are_counts": ("net standing resting value", REST),
        "last_standing": ("net standing resting", REST),
        "ending_run": ("net standing resting picks", REST + [PICKS]),
        "is_ending": ("net standing resting value", REST),
        "counts_behind": ("net standing resting run", REST + [RUN_PAST]),
        "bounding": ("net standing resting house", REST + [HOUSE]),
        "worth_resting": ("net standing resting house", REST + [HOUSE]),
    },
    "leads": {
        "lead": ("net standing one other", TWO_HOUSES),
        "leads": ("net standing", BOTH),
        "lead_run": ("net standing one other", TWO_HOUSES),
        "is_lead_run": ("net standing one other value", TWO_HOUSES),
        "fewest_keys": ("net standing one other", ROAD),
        "most_keys": ("net standing one other", ROAD),
    },
    "needed": {
        "needed": ("net standing", FREE),
        "are_needless": ("net standing some", FREE + [SOME]),
        "breaking": ("net standing some", FREE + [SOME]),
        "is_breaking": ("net standing some value", FREE + [SOME]),
        "can_be": ("net standing known", BOTH + [KNOWN]),
        "window": ("net standing house known", BOTH + [HOUSE, KNOWN]),
        "least_works": ("net standing known", BOTH + [KNOWN]),
    },
    "reach": {
        "works_between": ("net standing other", BOTH + [OTHER]),
        "run_between": ("net standing other", BOTH + [OTHER]),
        "is_run_between": ("net standing other value", BOTH + [OTHER]),
        "round_trip": ("net standing other", BOTH + [OTHER]),
        "barring": ("net standing other", BOTH + [OTHER]),
        "is_barring": ("net standing other value", BOTH + [OTHER]),
        "closed_rings": ("net", [NET]),
        "ring_marks": ("net standing", BOTH),
    },
    "classes": {
        "later_standings": ("net standing", BOTH),
        "classes": ("net", [NET]),
        "how_many_classes": ("net", [NET]),
        "farthest": ("net standing", BOTH),
        "nearest": ("net standing wanted", BOTH + [WANTED]),
    },
    "goals": {
        "goal_standing": ("net standing goal", JOINED_FREE + [GOAL]),
        "goal_works": ("net standing goal", JOINED_FREE + [GOAL]),
        "is_goal_standing": ("net standing goal", JOINED_FREE + [GOAL]),
        "goal_standings": ("net standing", JOINED_FREE),
        "lone_workers": ("net standing", JOINED_FREE),
        "how_many_for_goal": ("net goal", JOINED + [GOAL]),
        "goal_road": ("net standing one other", TWO_GOALS),
        "there_and_back": ("net standing one other", TWO_GOALS),
        "goal_run": ("net standing goal", JOINED_FREE + [GOAL]),
    },
    "parcels": {
        "leads_on": ("net standing", JOINED_FREE),
        "parcel_way": ("net standing house", JOINED_FREE + [HOUSE]),
        "how_many_ways": ("net standing house", JOINED_FREE + [HOUSE]),
        "longest_way": ("net standing house", JOINED_FREE + [HOUSE]),
        "lost_road": ("net standing one other", JOINED_FREE + LOSS),
        "repair": ("net standing goal one other", JOINED_FREE + [GOAL] + LOSS),
        "unharmed": ("net standing goal one other", JOINED_FREE + [GOAL] + LOSS),
        "cut_off_bound": ("net goal", JOINED + [GOAL]),
    },
    "beats": {
        "starts": ("net standing times many", TIMED + [BEATS]),
        "turning": ("net standing times", TIMED),
        "is_timetable": ("net standing times value", TIMED),
    },
    "rates": {
        "rates": ("net standing times", TIMED),
        "slowest": ("net standing times house", TIMED + [HOUSE]),
        "is_slowest": ("net standing times house value", TIMED + [HOUSE]),
        "are_numbers": ("net standing times period value", PERIOD),
        "least_numbers": ("net standing times period", PERIOD),
        "table_of_numbers": ("net standing times period many", PERIOD + [IN_TIME, BEATS]),
    },
    "wire": {
        "read_letter": ("net standing u v own letter", BOTH + TO + [OWN, LETTER]),
        "is_script": ("net standing value", BOTH),
        "state_after": ("net standing events", SCRIPT),
        "is_event": ("net standing events value", SCRIPT),
        "believed": ("net standing events u v", SCRIPT + TO),
        "believing": ("net standing events", SCRIPT),
        "meant": ("net standing events", SCRIPT),
        "run_of": ("events", [TOLD]),
        "flushed": ("net standing events", SCRIPT),
        "left_counts": ("net standing events", SCRIPT),
        "gone_on": ("net standing events picks", SCRIPT + [PICKS]),
    },
    "bits": {
        "disk_size": ("net house", [NET, HOUSE]),
        "small_after": ("net standing events", SCRIPT),
    },
    "silence": {
        "is_quiet_script": ("net standing asked value", FREE + [ASKED]),
        "quiet_state": ("net standing asked events", FREE + [ASKED, QUIET]),
        "are_enough": ("net standing asked", FREE + [ASKED]),
        "quiet_script_of": ("net standing asked run", FREE + [ASKED, ENOUGH, RUN]),
        "is_unsafe": ("net standing asked value", FREE + [ASKED]),
        "unsafe_script": ("net standing asked", FREE + [ASKED]),
    },
    "knowing": {
        "can_have_worked": ("net standing events house value", SCRIPT + [HOUSE]),
        "alike_script": ("net standing events house works", SCRIPT + [HOUSE, WORKS]),
        "is_alike_script": ("net standing events house value", SCRIPT + [HOUSE]),
        "known": ("net standing events house other", SCRIPT + [HOUSE, house_check("other")]),
        "all_known": ("net standing events house", SCRIPT + [HOUSE]),
        "surely_there": ("net standing events house u v", SCRIPT + [HOUSE] + TO),
        "surely_able": ("net standing events house", SCRIPT + [HOUSE]),
    },
    "marks": {
        "spread": ("net standing u v", BOTH + TO),
        "read_by": ("number first marks letter", COUNT + [TOLD_BY[-1], MARKS_LETTER]),
        "enough_marks": ("net standing u v", BOTH + TO),
        "alike_lines": ("net standing u v marks", TOLD_BY),
        "are_alike_lines": ("net standing u v marks value", TOLD_BY),
        "alike_runs": ("net standing u v marks", TOLD_BY),
        "are_alike_runs": ("net standing u v marks value", TOLD_BY),
        "late_letter": ("net standing u v marks", TOLD_BY),
        "is_late_letter": ("net standing u v marks value", TOLD_BY),
        "read_whole": ("number first letters", COUNT + [LETTERS]),
        "is_line": ("net standing u v marks value", TOLD_BY),
        "line_read": ("net standing u v marks events", TOLD_BY + [ON_LINE]),
        "wants": ("net standing u v marks events", TOLD_BY + [ON_LINE]),
    },
    "engine": {
        "script_for": ("net standing run", BOTH + [RUN]),
        "round_behind": ("net standing events", SCRIPT),
        "with_rounds": ("net standing events many", SCRIPT + [MANY]),
        "is_quiet": ("net standing events", SCRIPT),
        "rounds_to_quiet": ("net standing events", SCRIPT),
        "goes_without": ("net standing events dead", SCRIPT + [DEAD]),
        "counts_without": ("net standing resting dead", REST + [DEAD]),
        "rounds_without": ("net standing resting dead many", REST + [DEAD, MANY]),
    },
    "logs": {
        "log_of": ("net standing events", SCRIPT),
        "script_of": ("net standing text", BOTH + [TEXT, LOG]),
        "mended": ("net standing text", BOTH + [TEXT]),
        "replayed": ("net standing text", BOTH + [TEXT]),
        "snapshot": ("net standing events", SCRIPT),
        "state_of_snapshot": ("net text", [NET, TEXT, SNAPSHOT]),
        "resumed": ("net standing text events", BOTH + [TEXT, SNAPSHOT, GOES_ON]),
    },
    "changes": {
        "road_out": ("net standing u v", BOTH + TO),
        "road_in": ("net standing u v at_u at_v", APART + KEYS_AT),
        "key_in": ("net standing u v", BOTH + TO),
        "key_out": ("net standing u v", BOTH + TO + [LESS]),
        "house_in": ("net standing ends", BOTH + [ENDS]),
        "house_out": ("net standing house", BOTH + [HOUSE, NOT_ALONE]),
        "ring_by": ("net standing u v at_u at_v", APART + KEYS_AT),
        "places_for": ("net standing u v many", APART + [least_one("many")]),
        "ring_by_house": ("net standing ends", BOTH + [ENDS]),
        "counts_with": ("net standing resting u v at_u at_v", REST + APART[2:] + KEYS_AT),
        "kept_counts": ("net standing resting", REST),
    },
    "histories": {
        "is_history": ("net standing value", BOTH),
        "behind": ("net standing history", HISTORY),
        "first_stuck": ("net standing history", HISTORY),
        "taken_back": ("net standing history", HISTORY),
    },
    "lines": {
        "line_of": ("net standing", BOTH),
        "of_line": ("line", [LINE]),
    },
}

# Right arguments, for all names, of a net without rings, of one with a stuck ring and of one with a free ring; "instead"
# holds those of the functions in which a name means something else.
BASES = [
    {"net": plain.PATH, "standing": [1, 2], "house": 2, "one": 1, "other": 2, "way": [0, 1], "ring": [0, 1, 2],
     "run": [2, 2], "works": [1, 1, 1], "resting": [0], "u": 1, "v": 2, "i": 1, "j": 2, "number": 2,
     "moves": [(1, 0)], "picks": [1], "known": [(0, 1)], "some": [(0, 1)], "value": [2], "wanted": [(1, 0), (0, 1)],
     "goal": 1, "times": [1, 2, 3], "many": 4, "period": (5, 1), "own": 1, "letter": 2,
     "events": [("rest", 0), ("send", 1, 0), ("bring", 1, 0)], "asked": [(0, 1), (1, 0), (1, 2), (2, 1)], "first": 1,
     "marks": 3, "letters": [0, 2], "dead": [(0, 1)], "text": "0 rest 0\n1 send 1 0\n", "at_u": 1, "at_v": 0,
     "ends": [(0, 1, 0), (2, 2, 1)], "history": [("work", 2), ("more", 0, 1), ("house", [(1, 1, 1)])],
     "line": "2: 0-1 2/3"},
    {"net": plain.RING, "standing": [1, 0, 1], "house": 1, "one": 1, "other": 2, "way": [0, 1, 0], "ring": [0, 2, 1],
     "run": [], "works": [0, 0, 0], "resting": [], "u": 0, "v": 1, "i": 1, "j": 2, "number": 0,
     "moves": [(0, 2)], "picks": [], "known": [(0, 0)], "some": [], "value": [0, 2, 1], "wanted": [], "goal": 0,
     "times": [1, 1, 1], "many": 0, "period": (1, 1), "own": 0, "letter": 0, "events": [], "asked": [(0, 1)], "first": 0,
     "marks": 1, "letters": [], "dead": [], "text": "", "at_u": 0, "at_v": 1, "ends": [], "history": [], "line": "1:"},
    {"net": plain.RING, "standing": [1, 1, 1], "house": 2, "one": 2, "other": 0, "way": [1], "ring": [0, 1, 2],
     "run": [2, 1], "works": [0, 0, 1], "resting": [0, 2], "u": 2, "v": 0, "i": 2, "j": 1, "number": 3,
     "moves": [(0, 2)], "picks": [3, 0], "known": [(2, 1)], "some": [(1, 2)], "value": [2, 1, 0], "wanted": [(1, 2)],
     "goal": 2, "times": [9, 1, 1], "many": 3, "period": (25, 2), "own": 3, "letter": 1,
     "events": [("send", 0, 2), ("bring", 0, 2), ("send", 1, 2), ("bring", 1, 2), ("work", 2), ("rest", 2)],
     "asked": [(0, 2), (1, 0), (2, 1)], "first": 2, "marks": 2, "letters": [5, 1, 1], "dead": [(0, 2), (1, 0)],
     "text": "0 fall 2\n1 work 2", "at_u": 2, "at_v": 1, "ends": [(1, 0, 1)], "history": [("out", 1, 2), ("gone", 2)],
     "line": "3: 0-1 1/0, 1-2 0/2"},
]
# Nets with two houses that are no neighbours, and those whose roads have several keys.
APART_ONES = [{"v": 0, "u": 2}, {"net": plain.TAIL, "standing": [0, 1, 0, 1], "u": 3, "v": 0, "many": 1},
              {"net": (3, [(0, 1, 1)]), "standing": [0], "u": 2, "v": 0}]
SHOTS = [{"text": "works 0 0 1\nresting 0\nline 0 1 -\nline 1 0 0\nline 1 2 - 1\nline 2 1 -\n", "events": [("fall", 0)]},
         {"net": (1, []), "standing": [], "text": "works 3\nresting\n", "events": [("work", 0)]},
         {"net": (2, [(0, 1, 1)]), "standing": [0], "text": "works 0 1\nresting\nline 0 1 0\nline 1 0 -\n",
          "events": []}]
TWO_RUN_LISTS = [{"one": [2], "other": [2]}, {"one": [], "other": []}, {"one": [2, 1], "other": [2, 1]}]
OTHER_STANDINGS = [{"other": [0, 1]}, {"other": [1, 0, 1]}, {"other": [1, 0, 0]}]
INSTEAD = {"steps_between": TWO_RUN_LISTS, "led_over": TWO_RUN_LISTS}
INSTEAD.update({name: OTHER_STANDINGS for name in SPECS["reach"]})
INSTEAD.update({name: [{"events": ["send", "bring", 2]}, {"events": []}, {"events": ["send", "fall", "bring"]}]
                for name in ("line_read", "wants")})
INSTEAD.update({name: APART_ONES for name in ("road_in", "ring_by", "places_for", "counts_with")})
INSTEAD["quiet_state"] = [{}, {}, {"events": [("send", 0, 2), ("bring", 0, 2), ("work", 2)]}]
INSTEAD["key_out"] = [{}, {"net": (2, [(0, 1, 3)]), "standing": [1]}, {"net": (3, [(0, 2, 2)]), "standing": [1]}]
INSTEAD.update({name: SHOTS for name in ("state_of_snapshot", "resumed")})
INSTEAD["script_of"] = [{}, {}, {"text": "0 fall 2\n"}]


def all_functions():
    """All functions of the interface: the module's name, the function's, its arguments and its checks."""
    return [(module, name, names.split(), checks)
            for module, functions in SPECS.items() for name, (names, checks) in functions.items()]


def base_of(name, names, base):
    """Right arguments for a function."""
    held = {**base, **INSTEAD[name][BASES.index(base)]} if name in INSTEAD else base
    return copy.deepcopy({key: held[key] for key in names})


def expected_error(checks, arguments):
    """The error that these arguments have to raise, and the name of the argument or else the value that it holds."""
    for judge, error, held in checks:
        if not judge(arguments):
            return (error, held, None) if type(held) is str else (error, None, held(arguments))
    return None
