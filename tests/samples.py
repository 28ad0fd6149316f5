"""Meetings and plans for the tests, and things that are wrong in one place."""

import functools
import itertools
import math

DILEMMA = ((2, 2), ((3, 3), (0, 5), (5, 0), (1, 1)))
SMALL = ((1, 1), ((0, 0),))
THREE = ((2, 1, 3), ((1, 2, 3), (0, 0, 0), (-1, 4, 7), (9, -9, 5), (2, 2, 2), (-4, 0, 1)))
PENNIES = ((2, 2), ((1, -1), (-1, 1), (-1, 1), (1, -1)))
# Pennies of hands 0 and 2, with a hand between that has one deed.
PENNIES_OF_THREE = ((2, 1, 2), ((1, 5, -1), (-1, 6, 1), (-1, 7, 1), (1, 8, -1)))
TIES = ((3, 2), ((4, 1), (0, 1), (2, 3), (5, 0), (4, 2), (5, 2)))
# Hand 0 can be held low only by both others together.
TOGETHER = (
    (2, 2, 2), (
        (6, 0, 1), (5, 0, 1), (7, 3, 1), (-2, 3, 1),
        (8, 1, 0), (4, 1, 0), (3, 1, 2), (-3, 1, 2),
    ),
)
# No row is calm, yet some are kept from a patience of 1/2 on, and none below.
LATE = ((2, 3), ((4, 1), (1, 1), (3, 2), (1, 4), (1, 3), (4, 2)))
LATE_OF_THREE = (
    (2, 2, 2), ((3, 3, 0), (2, 2, 3), (3, 1, 3), (0, 3, 2), (2, 3, 1), (2, 3, 0), (1, 1, 0), (0, 0, 1)),
)
GRIM = (((0, 0), (0, 1, 1, 1)), ((1, 1), (1, 1, 1, 1)))
OF_THREE = (((1, 0, 2), (0, 1, 1, 0, 1, 0)), ((0, 0, 0), (1, 1, 0, 0, 1, 1)))
PATIENCES = ((1, 2), (1, 30), (29, 30), (2, 3), (13, 27), (28, 29))
TURNS = (((0, 1), (1, 1, 1, 1)), ((1, 0), (0, 0, 0, 0)))
# Each deed is answered by the other hand's last one.
TIT = (
    ((0, 0), (0, 1, 2, 3)), ((1, 0), (0, 1, 2, 3)), ((0, 1), (0, 1, 2, 3)), ((1, 1), (0, 1, 2, 3)),
)
# State 0 is left for good, and the states behind it go round without it.
AWAY = (((1, 0), (2, 2, 1, 2)), ((0, 1), (0, 2, 0, 0)), ((1, 1), (0, 0, 0, 1)))
LOSSES = ((2, 2), ((-3, -1), (-9, 2), (2, -9), (-7, -8)))
ALL_DEEDS = list(itertools.product((1, 2, 3), repeat=2)) + list(itertools.product((1, 2, 3), repeat=3))


def meeting_of(deeds, number=0):
    return (tuple(deeds), ((number,) * len(deeds),) * math.prod(deeds))


def rows_by_product(deeds):
    return tuple(itertools.product(*[range(many) for many in deeds]))


def spread(seed, many, least, most):
    """Numbers from least to most, always the same for a seed, with no pattern that matters."""
    numbers = []
    for _ in range(many):
        seed = (seed * 1103515245 + 12345) % 2 ** 31
        numbers.append(least + (seed >> 12) % (most - least + 1))
    return numbers


def spread_meeting(deeds, seed, least=-9, most=9):
    numbers = spread(seed, math.prod(deeds) * len(deeds), least, most)
    hands = len(deeds)
    return (tuple(deeds), tuple(tuple(numbers[k:k + hands]) for k in range(0, len(numbers), hands)))


def spread_plan(meeting, states, seed):
    rows = rows_by_product(meeting[0])
    told = spread(seed, states, 0, len(rows) - 1)
    nexts = spread(seed + 1, states * len(rows), 0, states - 1)
    return tuple(
        (rows[told[k]], tuple(nexts[k * len(rows):(k + 1) * len(rows)])) for k in range(states)
    )


def ring(rows, deeds):
    """A plan that goes through the rows and begins again, whatever was done."""
    many = len(rows_by_product(deeds))
    return tuple((row, ((place + 1) % len(rows),) * many) for place, row in enumerate(rows))


def chain(rows, deeds):
    """A plan that goes through the rows and stays at the last, whatever was done."""
    many = len(rows_by_product(deeds))
    return tuple((row, (min(place + 1, len(rows) - 1),) * many) for place, row in enumerate(rows))


@functools.lru_cache(maxsize=None)
def numbers_of_rows(deeds):
    return {row: number for number, row in enumerate(rows_by_product(deeds))}


def number_of_row(meeting, row):
    return numbers_of_rows(meeting[0])[row]


def behind(meeting, plan, state):
    return plan[state][1][number_of_row(meeting, plan[state][0])]


def pays_in(meeting, row):
    return meeting[1][number_of_row(meeting, row)]


def spread_rows(meeting, many, seed):
    rows = rows_by_product(meeting[0])
    return tuple(rows[number] for number in spread(seed, many, 0, len(rows) - 1))


def many_plans():
    """Meetings with plans of 1 state, of 8, and of more."""
    pairs = [(DILEMMA, GRIM), (DILEMMA, TURNS), (DILEMMA, TIT), (DILEMMA, AWAY), (LOSSES, AWAY), (THREE, OF_THREE)]
    pairs.append((SMALL, (((0, 0), (0,)),)))
    for seed, deeds in enumerate(ALL_DEEDS):
        meeting = spread_meeting(deeds, seed)
        for states in (1, 2, 3, 8, 9, 13):
            pairs.append((meeting, spread_plan(meeting, states, seed + states)))
        pairs.append((meeting, ring(spread_rows(meeting, 8, seed), deeds)))
        pairs.append((meeting, chain(spread_rows(meeting, 11, seed), deeds)))
    return pairs


MANY_PLANS = many_plans()


def all_kinds_told(thing):
    """Whether a thing is made of tuples, texts, whole numbers, truths and None alone."""
    if thing.__class__ is tuple:
        return all(all_kinds_told(part) for part in thing)
    return thing is None or thing.__class__ in (int, str, bool)


def lone_strays(meeting, row):
    return [
        (hand, deed) for hand, many in enumerate(meeting[0]) for deed in range(many) if deed != row[hand]
    ]


def put(thing, place, part):
    return thing[:place] + (part,) + thing[place + 1:]


def deep(kind, many):
    thing = kind()
    for _ in range(many):
        thing = kind((thing,))
    return thing


LONE_THINGS = (
    None, True, False, 0, 1, 2, -1, 10 ** 40, "", "1", "12", "2 2 : 3,3 0,5 5,0 1,1",
    (), [], (None,), (True,), (0,), ("",), ((),), ([],), [()], (0, 0), [0, 0], ((), ()), ([], []),
    (None, None), (True, True), ("", ""), ("22", "3333"), (0, ()), ((), 0), ((1, 1), None), ((1, 1), 0),
    ((1, 1), "a"), ((1, 1), ()), (None, ((0, 0),)), ("11", ((0, 0),)), (1, 2, 3), (True, 2), (1, True),
    deep(tuple, 30), deep(list, 30), (deep(tuple, 30), deep(tuple, 30)), (deep(list, 29), 1), (1, deep(list, 29)),
)


def wrong_kinds(part):
    """What may stand in the place of no part at all of a meeting, a plan or a patience."""
    wrongs = [None, True, False, "", "1", "ab", [], [0], (), ((),), deep(tuple, 25), deep(list, 25), [part], (part,)]
    if isinstance(part, tuple):
        wrongs = wrongs + [0, 1, list(part), str(part)]
    else:
        wrongs = wrongs + [str(part), part == 1]
    return wrongs


def wrong_lengths(part):
    if not isinstance(part, tuple):
        return []
    return [part[:-1], part[1:], part + part[-1:], part[:1] + part, part + (None,), part + part]


def replaced(thing, changes):
    """All that comes of the thing when one part, or the whole, is replaced by one of its changes."""
    wrongs = changes(thing)
    if isinstance(thing, tuple):
        for place, part in enumerate(thing):
            for wrong in replaced(part, changes):
                wrongs = wrongs + [thing[:place] + (wrong,) + thing[place + 1:]]
    return wrongs


def all_lists(thing):
    return [all_lists(part) for part in thing] if isinstance(thing, tuple) else thing
