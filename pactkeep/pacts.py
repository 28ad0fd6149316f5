"""Rows done over and over, and the threats by which they are kept."""

from pactkeep.errors import NoPact
from pactkeep.fractions import is_less
from pactkeep.once import paid
from pactkeep.plans import now_and_later
from pactkeep.things import all_rows, strays_from, with_deed
from pactkeep.threats import threatened_pays, with_threats


def steady(meeting, row, threats):
    return with_threats(meeting, (row,), threats)


def kept(meeting, patience):
    # No kept row ever falls away here: its threats are kept too, so they are among the rows that are left, and the
    # hardest of these deter no less. Where none falls away any more, all that are left hold by the hardest of them.
    rows = all_rows(meeting)
    left = holding_among(meeting, rows, patience)
    while left != rows:
        rows = left
        left = holding_among(meeting, rows, patience)
    return rows


def floors(meeting, patience):
    return threatened_pays(meeting, hardest(meeting, patience))


def hardest(meeting, patience):
    rows = kept(meeting, patience)
    if rows == ():
        raise NoPact("no row is kept")
    return hardest_among(meeting, rows)


def why_not(meeting, row, patience):
    return stray_that_gains(meeting, row, floors(meeting, patience), patience)


def holding_among(meeting, rows, patience):
    if rows == ():
        return ()
    after = threatened_pays(meeting, hardest_among(meeting, rows))
    return tuple([row for row in rows if stray_that_gains(meeting, row, after, patience) is None])


def hardest_among(meeting, rows):
    return tuple([hardest_for(meeting, rows, hand) for hand in range(len(meeting[0]))])


def hardest_for(meeting, rows, hand):
    return min(rows, key=lambda row: paid(meeting, row)[hand])


def stray_that_gains(meeting, row, after, patience):
    pays = paid(meeting, row)
    for hand, deed in strays_from(row, meeting[0]):
        now = paid(meeting, with_deed(row, hand, deed))[hand]
        if is_less((pays[hand], 1), now_and_later(now, (after[hand], 1), patience)):
            return (hand, deed)
    return None
