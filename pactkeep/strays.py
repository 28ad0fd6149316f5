"""Who gains by straying from a plan, and the most that a hand can have against it."""

from pactkeep.fractions import is_less
from pactkeep.once import paid
from pactkeep.plans import now_and_later, state_behind, worths
from pactkeep.things import with_deed


def gain(meeting, plan, patience):
    told = worths(meeting, plan, patience)
    for hand in range(len(meeting[0])):
        better = better_deeds(meeting, plan, hand, worths_of_hand(told, hand), patience)
        for state, deed in enumerate(better):
            if deed != plan[state][0][hand]:
                return (state, hand, deed)
    return None


def holds(meeting, plan, patience):
    return gain(meeting, plan, patience) is None


def best_worths(meeting, plan, hand, patience):
    bent = bent_for(meeting, plan, hand, patience)
    return worths_of_hand(worths(meeting, bent, patience), hand)


def best_strays(meeting, plan, hand, patience):
    return deeds_of_hand(bent_for(meeting, plan, hand, patience), hand)


def bent_for(meeting, plan, hand, patience):
    # Where one deed alone is better in no state, nothing that the hand does, for ever, is better. Else each bend gives
    # it more in some state and less in none, so that no deeds come twice, and the bends come to an end.
    bent = plan
    while True:
        own = worths_of_hand(worths(meeting, bent, patience), hand)
        better = better_deeds(meeting, bent, hand, own, patience)
        if better == deeds_of_hand(bent, hand):
            return bent
        bent = tuple([(with_deed(part[0], hand, deed), part[1]) for part, deed in zip(bent, better)])


def better_deeds(meeting, plan, hand, own, patience):
    return tuple([better_deed(meeting, plan, state, hand, own, patience) for state in range(len(plan))])


def better_deed(meeting, plan, state, hand, own, patience):
    # The plan's own deed comes first, so that a tie is no gain.
    row = plan[state][0]
    best = row[hand]
    most = own[state]
    for deed in range(meeting[0][hand]):
        done = with_deed(row, hand, deed)
        later = own[state_behind(meeting, plan, state, done)]
        worth = now_and_later(paid(meeting, done)[hand], later, patience)
        if is_less(most, worth):
            best = deed
            most = worth
    return best


def worths_of_hand(told, hand):
    return tuple([of_hands[hand] for of_hands in told])


def deeds_of_hand(plan, hand):
    return tuple([part[0][hand] for part in plan])
