"""What the document promises over the whole program."""

import copy
import importlib
import inspect
import unittest

from pactkeep.errors import NoPact
from pactkeep.fractions import is_fraction
from pactkeep.once import best_deeds, calm, held_to, paid, sure
from pactkeep.pacts import floors, hardest, kept, steady, why_not
from pactkeep.paths import alike, keeps_path, lean, on_path
from pactkeep.patience import by_itself, least_patience
from pactkeep.plans import played, worth_of, worths
from pactkeep.reading import read
from pactkeep.strays import best_strays, best_worths, gain, holds
from pactkeep.things import all_rows, is_meeting, is_patience, is_plan
from pactkeep.writing import written
from tests.samples import (
    ALL_DEEDS, DILEMMA, LATE, LATE_OF_THREE, PENNIES, SMALL, THREE, all_kinds_told, rows_by_product, spread_meeting,
    spread_rows,
)

INTERFACE = {
    "things": ("is_meeting(thing)", "is_plan(thing, meeting)", "is_patience(thing)", "all_rows(meeting)"),
    "writing": ("written(meeting)",),
    "reading": ("read(text)",),
    "once": (
        "paid(meeting, row)", "best_deeds(meeting, hand, row)", "calm(meeting)", "held_to(meeting, hand)",
        "sure(meeting, hand)",
    ),
    "plans": (
        "worths(meeting, plan, patience)", "played(meeting, plan, many, strays)",
        "worth_of(meeting, rows, over, patience)",
    ),
    "strays": (
        "gain(meeting, plan, patience)", "holds(meeting, plan, patience)",
        "best_worths(meeting, plan, hand, patience)", "best_strays(meeting, plan, hand, patience)",
    ),
    "pacts": (
        "steady(meeting, row, threats)", "kept(meeting, patience)", "floors(meeting, patience)",
        "hardest(meeting, patience)", "why_not(meeting, row, patience)",
    ),
    "patience": ("least_patience(meeting, row, threats)", "by_itself(meeting, row)"),
    "paths": (
        "on_path(meeting, path, threats)", "lean(plan)", "keeps_path(meeting, path, patience)", "alike(one, other)",
    ),
}
MEETINGS = [DILEMMA, SMALL, THREE, PENNIES, LATE, LATE_OF_THREE]
MEETINGS += [spread_meeting(deeds, seed) for seed, deeds in enumerate(ALL_DEEDS)]
PATIENCE = (13, 27)


def or_no_pact(tell, *given):
    try:
        return tell(*given)
    except NoPact:
        return "NoPact"


def rows_asked(meeting, seed):
    rows = spread_rows(meeting, 6 + len(meeting[0]), seed)
    return (rows[:6], rows[6:])


def all_that_is_told(meeting, path, threats):
    """What every function tells of the meeting, by its name."""
    plan = on_path(meeting, path, threats)
    row = path[0]
    hands = range(len(meeting[0]))
    strays = ((1, 0, 0), (3, 1, 0))
    return {
        "is_meeting": is_meeting(meeting), "is_plan": is_plan(plan, meeting), "is_patience": is_patience(PATIENCE),
        "all_rows": all_rows(meeting), "written": written(meeting), "read": read(written(meeting)),
        "paid": paid(meeting, row), "best_deeds": tuple(best_deeds(meeting, hand, row) for hand in hands),
        "calm": calm(meeting), "held_to": tuple(held_to(meeting, hand) for hand in hands),
        "sure": tuple(sure(meeting, hand) for hand in hands), "worths": worths(meeting, plan, PATIENCE),
        "played": played(meeting, plan, 12, strays), "worth_of": worth_of(meeting, path[:2], path[2:], PATIENCE),
        "gain": gain(meeting, plan, PATIENCE), "holds": holds(meeting, plan, PATIENCE),
        "best_worths": tuple(best_worths(meeting, plan, hand, PATIENCE) for hand in hands),
        "best_strays": tuple(best_strays(meeting, plan, hand, PATIENCE) for hand in hands),
        "steady": steady(meeting, row, threats), "kept": kept(meeting, PATIENCE),
        "floors": or_no_pact(floors, meeting, PATIENCE), "hardest": or_no_pact(hardest, meeting, PATIENCE),
        "why_not": or_no_pact(why_not, meeting, row, PATIENCE),
        "least_patience": least_patience(meeting, row, threats), "by_itself": by_itself(meeting, row),
        "on_path": plan, "lean": lean(plan), "alike": alike(plan, lean(plan)),
        "keeps_path": or_no_pact(keeps_path, meeting, path, PATIENCE),
    }


class InterfaceTest(unittest.TestCase):
    def test_names_and_arguments(self):
        for module, written_ones in INTERFACE.items():
            for one in written_ones:
                name, given = one.rstrip(")").split("(")
                function = getattr(importlib.import_module("pactkeep." + module), name)
                self.assertEqual(list(inspect.signature(function).parameters), given.split(", "))

    def test_every_function_is_asked_here(self):
        names = {one.split("(")[0] for written_ones in INTERFACE.values() for one in written_ones}
        self.assertEqual(set(all_that_is_told(DILEMMA, *rows_asked(DILEMMA, 1))), names)

    def test_what_is_true_or_false_is_so_itself(self):
        for seed, meeting in enumerate(MEETINGS):
            told = all_that_is_told(meeting, *rows_asked(meeting, seed))
            for name in ("is_meeting", "is_plan", "is_patience", "holds", "alike", "keeps_path"):
                self.assertIn(told[name].__class__, (bool, str), name)
            self.assertIs(told["keeps_path"].__class__, bool if told["kept"] else str)


class WholeTest(unittest.TestCase):
    def test_nothing_is_changed_and_the_same_is_told_again(self):
        for seed, meeting in enumerate(MEETINGS):
            path, threats = rows_asked(meeting, seed)
            before = copy.deepcopy((meeting, path, threats))
            told = all_that_is_told(meeting, path, threats)
            kept_for_later = copy.deepcopy(told)
            self.assertEqual(all_that_is_told(meeting, path, threats), kept_for_later)
            self.assertEqual(told, kept_for_later)
            self.assertEqual((meeting, path, threats), before)

    def test_the_order_of_asking_is_nothing_to_it(self):
        asked = [(meeting,) + rows_asked(meeting, seed) for seed, meeting in enumerate(MEETINGS[:12])]
        forwards = [all_that_is_told(*given) for given in asked]
        backwards = [all_that_is_told(*given) for given in asked[::-1]]
        self.assertEqual(forwards, backwards[::-1])

    def test_all_things_told_are_of_the_kinds_told(self):
        for seed, meeting in enumerate(MEETINGS):
            for name, thing in all_that_is_told(meeting, *rows_asked(meeting, seed)).items():
                self.assertIs(all_kinds_told(thing), True, name)

    def test_every_worth_and_every_least_patience_is_a_fraction(self):
        for seed, meeting in enumerate(MEETINGS):
            told = all_that_is_told(meeting, *rows_asked(meeting, seed))
            numbers = list(told["worth_of"]) + [told["least_patience"], told["by_itself"]]
            for group in told["worths"] + told["best_worths"]:
                numbers += group
            for number in numbers:
                self.assertTrue(number is None or is_fraction(number), number)

    def test_equal_things_that_are_others_are_told_the_same_of(self):
        for seed, meeting in enumerate(MEETINGS[:12]):
            path, threats = rows_asked(meeting, seed)
            other = read(written(meeting))
            self.assertEqual(all_that_is_told(other, path, threats), all_that_is_told(meeting, path, threats))

    def test_told_plans_of_more_than_8_states_are_taken(self):
        for seed, meeting in enumerate(MEETINGS):
            if len(meeting[0]) == 3:
                told = all_that_is_told(meeting, *rows_asked(meeting, seed))
                self.assertEqual(len(told["on_path"]), 9)
                self.assertIs(told["is_plan"], False)
                self.assertEqual(len(told["worths"]), 9)
                self.assertEqual([len(best) for best in told["best_worths"] + told["best_strays"]], [9] * 6)
                self.assertIs(told["alike"], True)
                self.assertLessEqual(len(told["lean"]), 9)
                self.assertEqual(told["played"][0], told["on_path"][0][0])
            self.assertIs(is_plan(all_that_is_told(meeting, *rows_asked(meeting, seed))["steady"], meeting), True)

    def test_a_plan_that_holds_gives_no_hand_more_and_one_that_does_not_gives_some_hand_more(self):
        for meeting in MEETINGS:
            if kept(meeting, PATIENCE):
                threats = hardest(meeting, PATIENCE)
                for row in rows_by_product(meeting[0]):
                    plan = steady(meeting, row, threats)
                    by_plan = worths(meeting, plan, PATIENCE)
                    best = [best_worths(meeting, plan, hand, PATIENCE) for hand in range(len(meeting[0]))]
                    self.assertIs(tuple(zip(*best)) == by_plan, row in kept(meeting, PATIENCE))

    def test_an_agreement_is_kept_from_its_least_patience_on(self):
        for meeting in MEETINGS:
            for row in kept(meeting, PATIENCE):
                least = least_patience(meeting, row, hardest(meeting, PATIENCE))
                self.assertIsNotNone(least)
                self.assertLessEqual(least[0] * PATIENCE[1], PATIENCE[0] * least[1])
                if least[0]:
                    self.assertIn(row, kept(meeting, least))
