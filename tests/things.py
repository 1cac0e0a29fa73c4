"""Things that several tests hand in."""

NOT_WHOLE = [True, False, None, "", "1", "a text", [], [1], (), (1,), (1, 1), [[2]], ((1, 2), 3)]

LARGE = [
    10 ** 39 + 1, 10 ** 40, 3 ** 90, 2 ** 150, 10 ** 60 - 1, 7 ** 71, 6 ** 77,
    -(10 ** 40 + 9), -(3 ** 100), -(2 ** 199), 10 ** 65 + 3, -(6 ** 80),
]


def deep(core, levels):
    """The core within as many lists and tuples, by turns."""
    thing = core
    for level in range(levels):
        thing = [thing] if level % 2 == 0 else (thing,)
    return thing


NO_PAIRS = NOT_WHOLE[:-3] + [
    0, 1, -1, 10 ** 50, "10", "ab", (1, 0, 0), (1, 0, 1), (0,), [1, 0], [0, 1], [3, 2],
    (True, 0), (0, True), (1, False), (False, 1), (True, True), (None, 1), (1, None),
    ("1", "0"), (1, "0"), ("1", 0), ([1], 0), (1, [0]), ((1,), 0), ((1, 0), (0, 1)), ((1, 0), 1),
    [(1, 0)], ((1, 0),), deep((1, 0), 6), deep(1, 6), list(range(2000)), tuple(range(2000)), "1" * 2000,
    (1, 0) * 1000, [(1, 0)] * 600, [[]], ([], []), ((), ()),
]
