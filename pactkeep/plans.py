"""What is done by a plan, and what it is worth."""

from pactkeep.fractions import lowest
from pactkeep.once import paid
from pactkeep.things import place_of


def worths(meeting, plan, patience):
    return tuple([worths_from(meeting, plan, state, patience) for state in range(len(plan))])


def played(meeting, plan, many, strays):
    strayed = {}
    for stray in strays:
        strayed[(stray[0], stray[1])] = stray[2]
    done = []
    state = 0
    for time in range(many):
        row = tuple([strayed.get((time, hand), deed) for hand, deed in enumerate(plan[state][0])])
        done.append(row)
        state = state_behind(meeting, plan, state, row)
    return tuple(done)


def worth_of(meeting, rows, over, patience):
    told = []
    for hand in range(len(meeting[0])):
        before = pays_of(meeting, rows, hand)
        again = pays_of(meeting, over, hand)
        told.append(worth_of_pays(before, again, patience))
    return tuple(told)


def worths_from(meeting, plan, start, patience):
    # The states are few, so following the plan leads at last to a state that was there before, and goes round from it.
    came = {}
    state = start
    while state not in came:
        came[state] = len(came)
        state = state_behind(meeting, plan, state, plan[state][0])
    rows = [plan[number][0] for number in came]
    return worth_of(meeting, rows[:came[state]], rows[came[state]:], patience)


def state_behind(meeting, plan, state, row):
    return plan[state][1][place_of(row, meeting[0])]


def pays_of(meeting, rows, hand):
    return [paid(meeting, row)[hand] for row in rows]


def worth_of_pays(before, again, patience):
    worth = (weighed(again, patience), weighed([1] * len(again), patience))
    for pay in reversed(before):
        worth = now_and_later(pay, worth, patience)
    return lowest(worth[0], worth[1])


def now_and_later(pay, later, patience):
    # The pair is not made lowest here: long rows would else take long, and is_less takes it as it is.
    upper = (patience[1] - patience[0]) * pay * later[1] + patience[0] * later[0]
    return (upper, patience[1] * later[1])


def weighed(pays, patience):
    # Pays that come over and over are worth their mean, each weighing d times what the one before it weighs.
    # With d as upper and lower, and all weights made whole, pay k of n weighs upper ** k * lower ** (n - 1 - k).
    total = 0
    weight = 1
    for pay in pays:
        total = total * patience[1] + weight * pay
        weight = weight * patience[0]
    return total
