import copy
import itertools
import math
import unittest

from pactkeep.things import all_rows, is_meeting, is_patience, is_plan, place_of, with_deed
from tests.samples import (
    ALL_DEEDS, DILEMMA, GRIM, LONE_THINGS, OF_THREE, SMALL, THREE, all_lists, meeting_of, put, replaced,
    rows_by_product, wrong_kinds, wrong_lengths,
)


def plan_of(states, row=(0, 0), many=4):
    """Each state leads to the last one."""
    return tuple((row, (states - 1,) * many) for _ in range(states))


class ThingsTest(unittest.TestCase):
    def yes(self, told, thing=None):
        self.assertIs(told, True, thing)

    def no(self, told, thing=None):
        self.assertIs(told, False, thing)


class MeetingTest(ThingsTest):
    def test_ordinary_ones(self):
        for meeting in (DILEMMA, SMALL, THREE):
            self.yes(is_meeting(meeting), meeting)

    def test_all_numbers_of_deeds(self):
        for deeds in ALL_DEEDS:
            self.yes(is_meeting(meeting_of(deeds)), deeds)

    def test_numbers_of_deeds_beyond(self):
        for deeds in ((0, 2), (2, 0), (4, 2), (2, 4), (0, 1, 1), (1, 4, 1), (1, 1, 4), (0, 0)):
            self.no(is_meeting(meeting_of(deeds)), deeds)
        self.no(is_meeting(((-1, -1), ((0, 0),))))

    def test_numbers_of_hands_beyond(self):
        for deeds in ((), (1,), (2,), (1, 1, 1, 1), (2, 1, 1, 2)):
            self.no(is_meeting(meeting_of(deeds)), deeds)

    def test_pays_at_and_beyond_the_edges(self):
        for deeds in ((1, 1), (2, 2), (2, 1, 3)):
            self.yes(is_meeting(meeting_of(deeds, 9)))
            self.yes(is_meeting(meeting_of(deeds, -9)))
        for place, pays in enumerate(DILEMMA[1]):
            for hand in (0, 1):
                for number in (-9, 9):
                    self.yes(is_meeting((DILEMMA[0], put(DILEMMA[1], place, put(pays, hand, number)))))
                for number in (-10, 10, 10 ** 30, -10 ** 30):
                    self.no(is_meeting((DILEMMA[0], put(DILEMMA[1], place, put(pays, hand, number)))))

    def test_pays_too_few_or_too_many(self):
        for deeds in ALL_DEEDS:
            pay = meeting_of(deeds)[1]
            self.no(is_meeting((deeds, pay[1:])), deeds)
            self.no(is_meeting((deeds, pay + pay[:1])), deeds)
            self.no(is_meeting((deeds, ())), deeds)

    def test_pays_of_other_numbers_of_hands(self):
        self.no(is_meeting(((1, 1), ((0, 0, 0),))))
        self.no(is_meeting(((1, 1, 1), ((0, 0),))))

    def test_wrong_in_one_place(self):
        for meeting in (DILEMMA, SMALL, THREE):
            for thing in replaced(meeting, wrong_kinds) + replaced(meeting, wrong_lengths):
                self.no(is_meeting(thing), thing)

    def test_wrong_everywhere(self):
        self.no(is_meeting(all_lists(DILEMMA)))
        for thing in LONE_THINGS + (GRIM, OF_THREE, (1, 2), (DILEMMA,), DILEMMA[0], DILEMMA[1]):
            self.no(is_meeting(thing), thing)


class PlanTest(ThingsTest):
    def test_ordinary_ones(self):
        self.yes(is_plan(GRIM, DILEMMA))
        self.yes(is_plan(OF_THREE, THREE))
        self.yes(is_plan((((0, 0), (0,)),), SMALL))

    def test_numbers_of_states(self):
        for states in range(1, 9):
            self.yes(is_plan(plan_of(states), DILEMMA), states)
            self.yes(is_plan(plan_of(states, (1, 0, 2), 6), THREE), states)
        for states in (0, 9, 10, 40):
            self.no(is_plan(plan_of(states), DILEMMA), states)
            self.no(is_plan(plan_of(states, (1, 0, 2), 6), THREE), states)

    def test_states_in_nexts(self):
        for states in (1, 2, 8):
            plan = plan_of(states)
            for place in range(states):
                for row in range(4):
                    for number in (0, states - 1):
                        state = (plan[place][0], put(plan[place][1], row, number))
                        self.yes(is_plan(put(plan, place, state), DILEMMA), state)
                    for number in (-1, -states, states, states + 1, 10 ** 30):
                        state = (plan[place][0], put(plan[place][1], row, number))
                        self.no(is_plan(put(plan, place, state), DILEMMA), state)

    def test_deeds_in_rows(self):
        for deeds in ALL_DEEDS:
            for row in itertools.product(range(-1, 5), repeat=len(deeds)):
                plan = plan_of(2, row, math.prod(deeds))
                one = all(0 <= deed < many for deed, many in zip(row, deeds))
                self.assertIs(is_plan(plan, meeting_of(deeds)), one, plan)

    def test_parts_too_few_or_too_many(self):
        row, nexts = GRIM[0]
        for state in (
            (), (row,), (nexts,), (row, nexts, nexts), (nexts, row), ((0,), nexts), ((0, 0, 0), nexts), ((), nexts),
            (row, nexts[1:]), (row, nexts + (0,)), (row, ()),
        ):
            self.no(is_plan((state, GRIM[1]), DILEMMA), state)
            self.no(is_plan((GRIM[0], state), DILEMMA), state)
            self.no(is_plan((state,), DILEMMA), state)

    def test_wrong_in_one_place(self):
        for plan, meeting in ((GRIM, DILEMMA), (OF_THREE, THREE), ((((0, 0), (0,)),), SMALL)):
            for thing in replaced(plan, wrong_kinds):
                self.no(is_plan(thing, meeting), thing)
            for place, state in enumerate(plan):
                for wrong in replaced(state, wrong_lengths):
                    self.no(is_plan(put(plan, place, wrong), meeting), wrong)

    def test_wrong_everywhere(self):
        self.no(is_plan(all_lists(GRIM), DILEMMA))
        for meeting in (DILEMMA, SMALL, THREE):
            for thing in LONE_THINGS + (DILEMMA, SMALL, THREE, (1, 2), GRIM[0], GRIM[0][1]):
                self.no(is_plan(thing, meeting), thing)

    def test_plans_of_other_meetings(self):
        self.no(is_plan(GRIM, THREE))
        self.no(is_plan(GRIM, SMALL))
        self.no(is_plan(OF_THREE, DILEMMA))

    def test_meetings_somewhat_beyond_are_not_refused(self):
        self.yes(is_plan(plan_of(2, (3, 0), 4), meeting_of((4, 1))))
        self.yes(is_plan(plan_of(2, (0, 1, 0, 0), 4), meeting_of((1, 2, 1, 2))))
        self.yes(is_plan(GRIM, meeting_of((2, 2), 12)))
        self.no(is_plan(plan_of(2, (4, 0), 4), meeting_of((4, 1))))


class PatienceTest(ThingsTest):
    def test_ordinary_ones(self):
        for thing in ((1, 2), (2, 3), (9, 10), (1, 30), (29, 30), (28, 29)):
            self.yes(is_patience(thing), thing)

    def test_all_small_pairs(self):
        for upper in range(-35, 36):
            for lower in range(-35, 36):
                one = 0 < upper < lower <= 30 and math.gcd(upper, lower) == 1
                self.assertIs(is_patience((upper, lower)), one, (upper, lower))

    def test_edges(self):
        for thing in (
            (0, 1), (1, 1), (0, 2), (2, 2), (30, 30), (3, 2), (-1, 2), (1, -2), (-1, -2), (1, 0), (0, 0),
            (1, 31), (30, 31), (2, 4), (10, 30), (29, 58), (10 ** 40, 10 ** 40 + 1),
        ):
            self.no(is_patience(thing), thing)

    def test_wrong_things(self):
        for pair in ((1, 2), (29, 30)):
            for thing in replaced(pair, wrong_kinds) + replaced(pair, wrong_lengths):
                self.no(is_patience(thing), thing)
        for thing in LONE_THINGS + (DILEMMA, SMALL, THREE, GRIM, OF_THREE, "1/2", ("1", "2"), [1, 2], (1, 2, 3)):
            self.no(is_patience(thing), thing)


class RowsTest(ThingsTest):
    def test_two_hands(self):
        self.assertEqual(all_rows(DILEMMA), ((0, 0), (0, 1), (1, 0), (1, 1)))
        self.assertEqual(all_rows(SMALL), ((0, 0),))

    def test_three_hands(self):
        rows = ((0, 0, 0), (0, 0, 1), (0, 0, 2), (1, 0, 0), (1, 0, 1), (1, 0, 2))
        self.assertEqual(all_rows(THREE), rows)

    def test_all_numbers_of_deeds(self):
        for deeds in ALL_DEEDS:
            rows = rows_by_product(deeds)
            self.assertEqual(all_rows(meeting_of(deeds)), rows)
            self.assertEqual(rows, tuple(sorted(rows)))

    def test_numbers_somewhat_beyond_are_not_refused(self):
        for deeds in ((4, 1), (5, 4, 2), (1, 2, 1, 2), (3,)):
            rows = rows_by_product(deeds)
            self.assertEqual(all_rows(meeting_of(deeds, 12)), rows)

    def test_kinds_of_what_is_told(self):
        for meeting in (DILEMMA, SMALL, THREE):
            rows = all_rows(meeting)
            self.assertIs(rows.__class__, tuple)
            for row in rows:
                self.assertIs(row.__class__, tuple)
                for deed in row:
                    self.assertIs(deed.__class__, int)


class RowTest(ThingsTest):
    def test_places_are_those_of_rising_rows(self):
        for deeds in ALL_DEEDS + [(4, 2), (1, 5, 2), (2, 2, 2, 2)]:
            for place, row in enumerate(rows_by_product(deeds)):
                self.assertEqual(place_of(row, deeds), place, (row, deeds))

    def test_with_another_deed(self):
        self.assertEqual(with_deed((0, 1, 2), 0, 2), (2, 1, 2))
        self.assertEqual(with_deed((0, 1, 2), 1, 0), (0, 0, 2))
        self.assertEqual(with_deed((0, 1, 2), 2, 2), (0, 1, 2))
        self.assertEqual(with_deed((0, 1), 1, 0), (0, 0))


class UnchangedTest(ThingsTest):
    def test_what_is_handed_in_is_not_changed(self):
        for thing in (all_lists(DILEMMA), (DILEMMA[0], [[3, 3]]), [1, 2], ([1], [2]), (((0, 0), [0, 1, 1, 1]),)):
            before = copy.deepcopy(thing)
            is_meeting(thing)
            is_plan(thing, DILEMMA)
            is_patience(thing)
            self.assertEqual(thing, before)
        meeting = copy.deepcopy(THREE)
        all_rows(meeting)
        is_plan(OF_THREE, meeting)
        self.assertEqual(meeting, THREE)

    def test_asked_again_the_same_is_told(self):
        for _ in range(3):
            self.yes(is_meeting(DILEMMA))
            self.no(is_meeting(all_lists(DILEMMA)))
            self.yes(is_plan(GRIM, DILEMMA))
            self.no(is_plan(GRIM, THREE))
            self.yes(is_patience((1, 2)))
            self.no(is_patience((True, 2)))
            self.assertEqual(len(all_rows(THREE)), 6)
            self.assertEqual(all_rows(THREE), all_rows(copy.deepcopy(THREE)))
