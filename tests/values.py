"""Values of all kinds that callers may hand over, and walks through results."""

from keyroads.errors import InvalidNet, RoadError
from keyroads.network import Network


def nested(depth):
    """A list within lists, so deep."""
    value = []
    for _ in range(depth - 1):
        value = [value]
    return value


def any_values():
    """New values of all kinds: right ones for some argument or other, and wrong ones."""
    return [
        None, True, False, -1, 0, 1, 2, 3, 7, 10 ** 29, -10 ** 29, "", "0", "road", "a b",
        [], [0], [1], [2], [0, 1], [1, 0], [0, 2], [0, 0], [1, 2], [0, 1, 2], [2, 1, 0], [0, 2, 1], [1, 2, 0],
        [0, 1, 0], [1, 1, 1], [0, 0, 0], [0, 1, 2, 3], [0, 5], [-1], [True], [False], [0, True, 0], [False, 1, 2],
        [True, True, True], [None], [None, None, None], [0, None, None], ["0"], [[0, 1]], [[0, 0, 0]], [()],
        [{}], [(0, 1)], [(1, 0)], [(0, 1), (1, 0)], [(0, 1), (1, 2)], [(1, 2), (0, 1)], [(0, 1), (0, 1)],
        [(0, 2)], [(0, True)], [(False, 1)], [(0, 0)], [(0, 3)], [(0, 1, 2)], [(0,)], [(0, -1)], [(0, "1")],
        [(0, 0), (2, 1)], [(2, 10 ** 29)], [(2, [])], [[0, 1], [1, 2]],
        (), (0,), (0, 1), (1, 0), (0, 1, 2), (0, []), (1, []), (2, []), ([0, 1], 2), {}, {0: 1}, {"a": []},
        (True, []), (0, [(0, 1, 1)]), (2, ((0, 1, 1),)), (2, [[0, 1, 1]]), (2, [(1, 0, 1)]), (2, [(0, 1, 0)]),
        (2, [(0, 1, True)]), (2, [(False, 1, 1)]), (2, [(0, 2, 1)]), (2, [(-1, 1, 1)]), (2, [(0, 0, 1)]),
        (3, [(1, 2, 1), (0, 1, 1)]), (3, [(0, 1, 1), (0, 1, 2)]), (3, [(0, 1, 1), (0, 1, 1)]), (2, [(0, 1)]),
        (2, [(0, 1, 1, 1)]), (2, [(0, 1, "1")]), [2, []], (2, [], []), (2, {}), ("2", []), (2, None), (2, [None]),
        (3, [(0, 1, 1), (1, 2, 2)]), (3, [(0, 1, 1), (0, 2, 1), (1, 2, 1)]), (2, [(0, 1, 2)]),
        ("road", 0, 1), ("road", 1, 0), ("road", True, 0), ("road", 0, 2), ("road", 0), ("road", [0], 1),
        ("ring", [0, 1, 2]), ("ring", [0, 2, 1]), ("ring", (0, 1, 2)), ("ring", [1, 2, 0]), ("ring", 0),
        ("ring", [0, 1, 2], 0), (None, 0, 1), ([], [0, 1, 2]), nested(30), InvalidNet(3), RoadError(), [RoadError()],
        (RoadError(), 0, 1), Network((1, []), []), [Network((2, []), [])], ("work", Network((1, []), [])),
        [1, 2, 3], [9, 9, 9], [1, 1, 10], [1, 0, 1], [1, True, 1], 500, 501, (1, 1), (2, 1), (5, 2), (25, 2), (4, 2),
        (0, 0), (3, 0), (2, -1), (True, 1), [(0, 1), (0, 1), (0, 1)], [(0, 1), (1, 2), (3, 2)], [(1, 1), (0, 1), (2, 1)],
        [[0], [1], []], [[2], [], [1]], [[0, 1]], [[1, 0]], ("way", [0, 1]), ("way", [2, 1, 0]), ("way", [True]),
        ("work", 0), ("work", 2), ("fall", 0), ("fall", True), ("rest", 1), ("rest", [1]), ("send", 0, 1),
        ("send", 0, True), ("bring", 0, 1), ("lose", 0, 1, 0), ("work",), ["fall", 0], ("work", 0, 0), ("", 1, 2),
        [("fall", 0)], [("send", 0, 1)], [("send", 0, 1), ("bring", 0, 1)], [("work", 0)], [("bring", 0, 1)],
        [("fall", True)], [["fall", 0]], (("fall", 0),), [("work", 0, 0)], [("wake", 0)], [("send", 0, 1, 0)], [()],
        [("rest", 1), ("rest", 1)], [("send", 0, 1), ("lose", 0, 1, True)], [("send", 0, 1), ("double", 0, 1, 0)],
    ]


def more_values(name):
    """Further values for an argument of this name, of the kind that it takes."""
    ring = "works 0 0 0\nresting\nline 0 1 -\nline 0 2 -\nline 1 0 -\nline 1 2 -\nline 2 0 -\nline 2 1 -\n"
    found = {
        "text": ["0 fall 0\n", "0 fall 0", "0 fall 00\n", "0 send 0 1\n1 bring 0 1\n", "1 fall 0\n", "\n", "works 0\n",
                 "works 0\nresting\n", "works 0\nresting 0\n", "works 0\nresting 1\n", ring, ring + "\n", ring[:-1],
                 ring.replace("- ", "7 0 "), ring.replace("works 0", "works 00"), "0 work 0\n1 work 0\n2 rest 0\n"],
        "history": [[("work", 0)], [("work", 0), ("work", 0)], [("gone", 0)], [("gone", 0), ("gone", 0), ("gone", 0)],
                    [("out", 0, 1), ("in", 0, 1, 1, 1)], [("house", []), ("more", 1, 0)], [("less", 0, 1)],
                    [("house", [(0, 1, 0)])], [("house", [(0, 0, 0)])], [("in", 0, 1, 0, 1)], [["work", 0]], [("work",)]],
        "ends": [[(0, 1, 1)], [(0, 0, 1), (1, 1, 0)], [(1, 1, 1), (0, 1, 1)], [(0, 0, 0)], [(0, 1, -1)], [(0, 1, True)]],
        "line": ["2: 0-1 1/0", "2: 0-1 0/0", "12:", "0:", "1", "3: 0-1 1/0, 0-2 1/1", "3: 0-2 1/0, 0-1 1/1", "3:  0-1 1/0"],
        "events": [["send"], ["send", "bring"], [0, 1], [2, "send", "fall"], ["bring"], [0, "double"], ["work"]],
        "value": [["send"], ["send", "bring"], ([0], [0]), (["send", "fall", "bring"], [0, "send", "fall", "bring"]),
                  ([], 0), ([0, 0], 1), [("gone", 0)], [("house", [])], [("more", 0, 1), ("work", 1)]],
    }
    return found.get(name, [])


def few_values():
    """A few wrong and right ones of them, for taking them in pairs."""
    return [None, True, -1, 0, 1, 5, "0", [], [0, 2], [0, 1, 0], [True], [(0, 1)], (0, 1), (2, []),
            (3, [(0, 1, 1), (0, 2, 1), (1, 2, 1)])]


def lists_in(value):
    """All list objects within a value, each as often as it stands there."""
    found = []
    waiting = [value]
    for item in waiting:
        if isinstance(item, list):
            found.append(item)
        if isinstance(item, (list, tuple)):
            waiting.extend(item)
        if isinstance(item, dict):
            waiting.extend(item.values())
    return found


def is_plain(value):
    """Whether a result is made of None, Booleans, strings, whole numbers, tuples and lists."""
    if isinstance(value, (list, tuple)):
        return all(is_plain(item) for item in value)
    return value is None or isinstance(value, (bool, int, str))
