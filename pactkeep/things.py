"""What a meeting, a plan and a patience are, and the rows of a meeting."""

from pactkeep.fractions import is_fraction, is_whole

FEWEST_HANDS = 2
MOST_HANDS = 3
MOST_DEEDS = 3
LOWEST_PAY = -9
HIGHEST_PAY = 9
MOST_STATES = 8
MOST_LOWER = 30


def is_meeting(thing):
    return is_tuple_of(thing, 2, 2) and is_deeds(thing[0]) and is_pay(thing[1], thing[0])


def is_plan(thing, meeting):
    # Of the meeting the deeds alone are looked at: one somewhat beyond its bounds is not refused.
    if not is_tuple_of(thing, 1, MOST_STATES):
        return False
    return all([is_state(part, meeting[0], len(thing)) for part in thing])


def is_patience(thing):
    return is_fraction(thing) and 0 < thing[0] < thing[1] <= MOST_LOWER


def all_rows(meeting):
    return rows_of(meeting[0])


def rows_of(deeds):
    rows = [()]
    for many in deeds:
        longer = []
        for row in rows:
            for deed in range(many):
                longer.append(row + (deed,))
        rows = longer
    return tuple(rows)


def place_of(row, deeds):
    # Rising rows are counted as numbers are whose digits are the deeds.
    place = 0
    for deed, many in zip(row, deeds):
        place = place * many + deed
    return place


def with_deed(row, hand, deed):
    return row[:hand] + (deed,) + row[hand + 1:]


def strays_from(row, deeds):
    strays = []
    for hand, many in enumerate(deeds):
        strays = strays + [(hand, deed) for deed in range(many) if deed != row[hand]]
    return strays


def is_deeds(thing):
    return is_tuple_of(thing, FEWEST_HANDS, MOST_HANDS) and are_between(thing, 1, MOST_DEEDS)


def is_pay(thing, deeds):
    many = len(rows_of(deeds))
    return is_tuple_of(thing, many, many) and all([is_pay_of_row(part, len(deeds)) for part in thing])


def is_pay_of_row(thing, hands):
    return is_tuple_of(thing, hands, hands) and are_between(thing, LOWEST_PAY, HIGHEST_PAY)


def is_state(thing, deeds, states):
    return is_tuple_of(thing, 2, 2) and is_row(thing[0], deeds) and is_nexts(thing[1], deeds, states)


def is_row(thing, deeds):
    if not is_tuple_of(thing, len(deeds), len(deeds)):
        return False
    return all([is_between(deed, 0, many - 1) for deed, many in zip(thing, deeds)])


def is_nexts(thing, deeds, states):
    many = len(rows_of(deeds))
    return is_tuple_of(thing, many, many) and are_between(thing, 0, states - 1)


def is_tuple_of(thing, fewest, most):
    return isinstance(thing, tuple) and fewest <= len(thing) <= most


def are_between(parts, least, most):
    return all([is_between(part, least, most) for part in parts])


def is_between(thing, least, most):
    return is_whole(thing) and least <= thing <= most
