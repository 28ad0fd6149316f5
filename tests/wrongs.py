"""Things that are wrong in one place, for the tests of what a thing is."""


def deep(kind, many):
    thing = kind()
    for _ in range(many):
        thing = kind((thing,))
    return thing


LONE_THINGS = (
    None, True, False, 0, 1, 2, -1, 10 ** 40, "", "1", "12", "2 2 : 3,3 0,5 5,0 1,1",
    (), [], (None,), (True,), (0,), ("",), ((),), ([],), [()], (0, 0), [0, 0], ((), ()), ([], []),
    (None, None), (True, True), ("", ""), ("22", "3333"), (0, ()), ((), 0), ((1, 1), None), ((1, 1), 0),
    ((1, 1), "a"), ((1, 1), ()), (None, ((0, 0),)), ("11", ((0, 0),)), (1, 2, 3), (True, 2), (1, True),
    deep(tuple, 30), deep(list, 30), (deep(tuple, 30), deep(tuple, 30)), (deep(list, 29), 1), (1, deep(list, 29)),
)


def wrong_kinds(part):
    """What may stand in the place of no part at all of a meeting, a plan or a patience."""
    wrongs = [None, True, False, "", "1", "ab", [], [0], (), ((),), deep(tuple, 25), deep(list, 25), [part], (part,)]
    if isinstance(part, tuple):
        wrongs = wrongs + [0, 1, list(part), str(part)]
    else:
        wrongs = wrongs + [str(part), part == 1]
    return wrongs


def wrong_lengths(part):
    if not isinstance(part, tuple):
        return []
    return [part[:-1], part[1:], part + part[-1:], part[:1] + part, part + (None,), part + part]


def replaced(thing, changes):
    """All that comes of the thing when one part, or the whole, is replaced by one of its changes."""
    wrongs = changes(thing)
    if isinstance(thing, tuple):
        for place, part in enumerate(thing):
            for wrong in replaced(part, changes):
                wrongs = wrongs + [thing[:place] + (wrong,) + thing[place + 1:]]
    return wrongs


def all_lists(thing):
    return [all_lists(part) for part in thing] if isinstance(thing, tuple) else thing
