"""[33] to [35]: what plans are made of."""

import random
import time
import unittest

from supermoves.bends import how_many_shortest, parked, shortened, turned_about
from supermoves.errors import InvalidKind, InvalidNumber, InvalidPlan, InvalidRoom
from supermoves.plans import shortest_plan
from supermoves.tops import fewest_with
from tests.helpers import (KINDS, begin_of, end_of, junk, not_numbers, plain_standings, plain_steps, refused, refuses,
                           same, searched, watched)
from tests.test_capacity import not_kinds, not_rooms
from tests.test_plans import FIVE, ROOM, any_plan, not_plans, right_plans
from tests.test_tops import any_runs, great_runs, small_runs


def plainly_struck(kind, room, many, plan):
    """As [35] tells it: the plan without what lies between a standing and its coming again."""
    kept, steps = [begin_of(many)], []
    for step, here in zip(plan, plain_standings(kind, room, many, plan)[1:]):
        if here in kept:
            while kept[-1] != here:
                kept.pop()
                steps.pop()
        else:
            kept.append(here)
            steps.append(step)
    return steps


def plainly_counted(kind, room, here, length):
    """How many lists of so many steps lead from a standing to the end, each one gone through."""
    if length == 0:
        return int(here == end_of(len(here)))
    return sum(plainly_counted(kind, room, behind, length - 1) for _, behind in plain_steps(kind, room, here))


class Bends(unittest.TestCase):
    def plans(self):
        return right_plans(90, 120) + [("whole", (0, 1, []), 1, [(1, "column"), (1, "goal")]),
                                       ("over", (1, 0, []), 2, [(1, "cell"), (2, "goal"), (1, "next")])]

    def test_parked(self):
        for kind, room, many, plan in self.plans():
            ahead = [told for step, told in zip(plan, plain_standings(kind, room, many, plan)) if step[0] == many][-1]
            told = watched(self, parked, kind, room, many, plan)
            cards = [card for low, high, _ in told for card in range(low, high + 1)]
            self.assertEqual(cards, list(range(1, many)))
            for low, high, place in told:
                self.assertTrue(same((low, high, place), (low, high, ahead[high - 1])) and place != "next")
                self.assertEqual(set(ahead[low - 1:high - 1]) - {"next"}, set())
                self.assertTrue(place != "cell" or low == high)

    def test_turned_about(self):
        for kind, room, many, plan in self.plans():
            other, place, back = watched(self, turned_about, kind, room, many, plan)
            more = {"over": 0, "whole": 1, "into": -1}[kind]
            self.assertEqual(other, {"over": "over", "whole": "into", "into": "whole"}[kind])
            self.assertTrue(same(place, (room[0], room[1] + more, room[2])))
            told = plain_standings(other, place, many, back)
            self.assertIsNotNone(told)
            turned = [tuple({"base": "goal", "goal": "base"}.get(spot, spot) for spot in one) for one in told]
            self.assertEqual(turned[::-1], plain_standings(kind, room, many, plan))
            self.assertTrue(same(turned_about(other, place, many, back), (kind, room, plan)))

    def test_shortened(self):
        struck = 0
        for kind, room, many, plan in self.plans():
            told = watched(self, shortened, kind, room, many, plan)
            self.assertTrue(same(told, plainly_struck(kind, room, many, plan)))
            here = plain_standings(kind, room, many, told)
            self.assertEqual(here[-1], end_of(many))
            self.assertEqual(len(here), len(set(here)))
            self.assertLessEqual(len(told), len(plan))
            self.assertEqual(shortened(kind, room, many, told), told)
            struck += len(told) < len(plan)
        self.assertGreater(struck, 30)

    def test_detours_within_detours(self):
        there, back = (1, "cell"), (1, "next")
        plan = [there, (1, "column"), there, back, there, (2, "column"), back, there, (2, "next"), (1, "column"), back]
        rest = [(1, "column"), (2, "cell"), (3, "goal"), (2, "next"), (1, "next")]
        self.assertEqual(shortened("over", (1, 1, []), 3, plan + rest), rest)

    def test_what_is_no_right_plan(self):
        bad = not_plans() + [[], FIVE[:-1], FIVE[:3], FIVE + [(1, "cell")]]
        for function in [parked, turned_about, shortened]:
            for value in bad:
                refused(self, InvalidPlan, value, function, "over", ROOM, 3, value)

    def test_plans_that_do_not_end(self):
        chance = random.Random(94)
        for kind, room, many in any_runs(95, 40, 5, 2, 2):
            plan, here = any_plan(chance, kind, room, many, 8)
            if here != end_of(many):
                for function in [parked, turned_about, shortened]:
                    refused(self, InvalidPlan, plan, function, kind, room, many, plan)

    def test_errors(self):
        kind, room = ("over", InvalidKind, not_kinds()), (ROOM, InvalidRoom, not_rooms())
        many = (3, InvalidNumber, not_numbers())
        for function in [parked, turned_about, shortened]:
            refuses(self, function, kind, room, many, (FIVE, InvalidPlan, junk() + not_plans() + [[]]))
            refused(self, InvalidPlan, FIVE, function, "over", ROOM, 10 ** 29, FIVE)
        refuses(self, how_many_shortest, kind, room, many)

    def test_up_to_the_limits(self):
        begin = time.perf_counter()
        for kind, room, many in great_runs()[::7]:
            plan = shortest_plan(kind, room, many)
            if plan is not None:
                other, place, back = turned_about(kind, room, many, plan)
                self.assertEqual(len(back), fewest_with(other, place, many))
                self.assertEqual(shortened(kind, room, many, plan), plan)
                self.assertEqual([high for _, high, _ in parked(kind, room, many, plan)][-1], 23)
        detours = [(1, "cell"), (1, "next")] * 215 + shortest_plan("over", (6, 5, []), 24)
        self.assertEqual(shortened("over", (6, 5, []), 24, detours), detours[430:])
        self.assertLess(time.perf_counter() - begin, 20)

    def test_long_plans(self):
        chance = random.Random(91)
        for kind, room, many, plan in right_plans(92, 5, 4):
            for at in range(len(plan) + 1):
                here = plain_standings(kind, room, many, plan)[at]
                found = [(step, behind) for step, behind in plain_steps(kind, room, here)
                         if dict(plain_steps(kind, room, behind)).get((step[0], here[step[0] - 1])) == here]
                if found:
                    card, place = chance.choice(found)[0]
                    longer = plan[:at] + [(card, place), (card, here[card - 1])] * 50 + plan[at:]
                    self.assertEqual(shortened(kind, room, many, longer), plainly_struck(kind, room, many, longer))


class HowManyShortest(unittest.TestCase):
    def test_all_lists_of_steps(self):
        for kind, room, many in small_runs(3, 2, 2) + [run for run in small_runs(4, 1, 1) if run[2] == 4]:
            steps = searched(kind, room[0], room[1], tuple(room[2]), many)[0]
            wanted = 0 if steps is None else plainly_counted(kind, room, begin_of(many), steps)
            self.assertEqual(watched(self, how_many_shortest, kind, room, many), wanted, f"{kind} {room} {many}")

    def test_a_search_through_standings(self):
        for kind, room, many in any_runs(93, 80, 6, 3, 3):
            self.assertEqual(how_many_shortest(kind, room, many),
                             searched(kind, room[0], room[1], tuple(room[2]), many)[1])

    def test_edges(self):
        self.assertEqual(how_many_shortest("into", (3, 0, [1]), 1), 0)
        self.assertEqual(how_many_shortest("over", (0, 0, []), 2), 0)
        for kind in KINDS:
            self.assertEqual(how_many_shortest(kind, (3, 3, []), 1), 1)
        self.assertEqual(how_many_shortest("over", (1, 1, []), 2), 2)

    def test_up_to_the_limits(self):
        begin = time.perf_counter()
        for kind in KINDS:
            for tops in ([], [3], [1, 2, 3, 4, 5]):
                self.assertGreater(how_many_shortest(kind, (3, 3, tops), 6), 0)
        self.assertLess(time.perf_counter() - begin, 20)
