"""Meetings and plans for the tests, and things that are wrong in one place."""

import itertools
import math

DILEMMA = ((2, 2), ((3, 3), (0, 5), (5, 0), (1, 1)))
SMALL = ((1, 1), ((0, 0),))
THREE = ((2, 1, 3), ((1, 2, 3), (0, 0, 0), (-1, 4, 7), (9, -9, 5), (2, 2, 2), (-4, 0, 1)))
GRIM = (((0, 0), (0, 1, 1, 1)), ((1, 1), (1, 1, 1, 1)))
OF_THREE = (((1, 0, 2), (0, 1, 1, 0, 1, 0)), ((0, 0, 0), (1, 1, 0, 0, 1, 1)))
ALL_DEEDS = list(itertools.product((1, 2, 3), repeat=2)) + list(itertools.product((1, 2, 3), repeat=3))


def meeting_of(deeds, number=0):
    return (tuple(deeds), ((number,) * len(deeds),) * math.prod(deeds))


def rows_by_product(deeds):
    return tuple(itertools.product(*[range(many) for many in deeds]))


def spread(seed, many, least, most):
    """Numbers from least to most, always the same for a seed, with no pattern that matters."""
    numbers = []
    for _ in range(many):
        seed = (seed * 1103515245 + 12345) % 2 ** 31
        numbers.append(least + (seed >> 12) % (most - least + 1))
    return numbers


def spread_meeting(deeds, seed, least=-9, most=9):
    numbers = spread(seed, math.prod(deeds) * len(deeds), least, most)
    hands = len(deeds)
    return (tuple(deeds), tuple(tuple(numbers[k:k + hands]) for k in range(0, len(numbers), hands)))


def spread_plan(meeting, states, seed):
    rows = rows_by_product(meeting[0])
    told = spread(seed, states, 0, len(rows) - 1)
    nexts = spread(seed + 1, states * len(rows), 0, states - 1)
    return tuple(
        (rows[told[k]], tuple(nexts[k * len(rows):(k + 1) * len(rows)])) for k in range(states)
    )


def all_kinds_told(thing):
    """Whether a thing is made of tuples, texts, whole numbers, truths and None alone."""
    if thing.__class__ is tuple:
        return all(all_kinds_told(part) for part in thing)
    return thing is None or thing.__class__ in (int, str, bool)


def put(thing, place, part):
    return thing[:place] + (part,) + thing[place + 1:]


def deep(kind, many):
    thing = kind()
    for _ in range(many):
        thing = kind((thing,))
    return thing


LONE_THINGS = (
    None, True, False, 0, 1, 2, -1, 10 ** 40, "", "1", "12", "2 2 : 3,3 0,5 5,0 1,1",
    (), [], (None,), (True,), (0,), ("",), ((),), ([],), [()], (0, 0), [0, 0], ((), ()), ([], []),
    (None, None), (True, True), ("", ""), ("22", "3333"), (0, ()), ((), 0), ((1, 1), None), ((1, 1), 0),
    ((1, 1), "a"), ((1, 1), ()), (None, ((0, 0),)), ("11", ((0, 0),)), (1, 2, 3), (True, 2), (1, True),
    deep(tuple, 30), deep(list, 30), (deep(tuple, 30), deep(tuple, 30)), (deep(list, 29), 1), (1, deep(list, 29)),
)


def wrong_kinds(part):
    """What may stand in the place of no part at all of a meeting, a plan or a patience."""
    wrongs = [None, True, False, "", "1", "ab", [], [0], (), ((),), deep(tuple, 25), deep(list, 25), [part], (part,)]
    if isinstance(part, tuple):
        wrongs = wrongs + [0, 1, list(part), str(part)]
    else:
        wrongs = wrongs + [str(part), part == 1]
    return wrongs


def wrong_lengths(part):
    if not isinstance(part, tuple):
        return []
    return [part[:-1], part[1:], part + part[-1:], part[:1] + part, part + (None,), part + part]


def replaced(thing, changes):
    """All that comes of the thing when one part, or the whole, is replaced by one of its changes."""
    wrongs = changes(thing)
    if isinstance(thing, tuple):
        for place, part in enumerate(thing):
            for wrong in replaced(part, changes):
                wrongs = wrongs + [thing[:place] + (wrong,) + thing[place + 1:]]
    return wrongs


def all_lists(thing):
    return [all_lists(part) for part in thing] if isinstance(thing, tuple) else thing
