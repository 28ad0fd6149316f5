"""From which patience on an agreement with threats is kept."""

from pactkeep.fractions import is_less, lowest
from pactkeep.once import calm, paid
from pactkeep.things import strays_from, with_deed
from pactkeep.threats import threatened_pays


def least_patience(meeting, row, threats):
    after = threatened_pays(meeting, threats)
    least = (0, 1)
    for told in (row,) + threats:
        for hand, deed in strays_from(told, meeting[0]):
            pay = paid(meeting, told)[hand]
            now = paid(meeting, with_deed(told, hand, deed))[hand]
            needed = needed_against(now - pay, now - after[hand])
            if needed is None:
                return None
            if is_less(least, needed):
                least = needed
    return least


def by_itself(meeting, row):
    least = None
    for threat in calm(meeting):
        told = least_patience(meeting, row, (threat,) * len(meeting[0]))
        if told is not None and (least is None or is_less(told, least)):
            least = told
    return least


def needed_against(won, lost):
    # By straying a hand wins this now, and then has this much less than now ever after. With d it has no more just
    # if won is no more than d times lost; a d that holds only below some bound is none, for it fails near 1.
    if won <= 0 and won <= lost:
        return (0, 1)
    if 0 < won < lost:
        return lowest(won, lost)
    return None
