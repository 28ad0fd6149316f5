"""One meeting by itself: what is paid, and what a hand can get or be held to."""

from pactkeep.things import all_rows, place_of, with_deed


def paid(meeting, row):
    return meeting[1][place_of(row, meeting[0])]


def best_deeds(meeting, hand, row):
    pays = pays_by_deed(meeting, hand, row)
    most = max(pays)
    return tuple([deed for deed, pay in enumerate(pays) if pay == most])


def calm(meeting):
    return tuple([row for row in all_rows(meeting) if is_calm(meeting, row)])


def held_to(meeting, hand):
    # Rows that differ in the hand's own deed alone tell the same here, so walking all of them does no harm.
    return min([max(pays_by_deed(meeting, hand, row)) for row in all_rows(meeting)])


def sure(meeting, hand):
    return max([least_paid(meeting, hand, deed) for deed in range(meeting[0][hand])])


def pays_by_deed(meeting, hand, row):
    return [paid(meeting, with_deed(row, hand, deed))[hand] for deed in range(meeting[0][hand])]


def is_calm(meeting, row):
    return all([deed in best_deeds(meeting, hand, row) for hand, deed in enumerate(row)])


def least_paid(meeting, hand, deed):
    return min([paid(meeting, row)[hand] for row in all_rows(meeting) if row[hand] == deed])
