"""Paths of rows done over and over, and plans made lean."""

from pactkeep.pacts import hardest
from pactkeep.strays import holds
from pactkeep.threats import with_threats


def on_path(meeting, path, threats):
    return with_threats(meeting, path, threats)


def keeps_path(meeting, path, patience):
    return holds(meeting, on_path(meeting, path, hardest(meeting, patience)), patience)


def alike(one, other):
    # Lean plans are numbered by what is done alone, so that alike ones come out the same.
    return lean(one) == lean(other)


def lean(plan):
    sorts = sorts_of_states(plan)
    numbers = {sorts[0]: 0}
    states = [0]
    place = 0
    while place < len(states):
        nexts = plan[states[place]][1]
        for behind in nexts:
            if sorts[behind] not in numbers:
                numbers[sorts[behind]] = len(states)
                states.append(behind)
        place = place + 1
    return tuple([renumbered(plan[state], sorts, numbers) for state in states])


def renumbered(part, sorts, numbers):
    return (part[0], tuple([numbers[sorts[behind]] for behind in part[1]]))


def sorts_of_states(plan):
    # At first states are of one sort if they tell the same row; then the sorts are parted by what comes behind
    # each row, until none is parted any more. Numbers by first coming make equal partings equal lists.
    sorts = numbered([part[0] for part in plan])
    finer = parted(plan, sorts)
    while finer != sorts:
        sorts = finer
        finer = parted(plan, sorts)
    return sorts


def parted(plan, sorts):
    return numbered([(sorts[state], tuple([sorts[behind] for behind in part[1]])) for state, part in enumerate(plan)])


def numbered(things):
    numbers = {}
    for thing in things:
        if thing not in numbers:
            numbers[thing] = len(numbers)
    return [numbers[thing] for thing in things]
