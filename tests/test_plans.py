"""[29] to [32]: standings, steps and plans."""

import itertools
import random
import time
import unittest

from supermoves.capacity import can_pass
from supermoves.errors import InvalidKind, InvalidNumber, InvalidPlan, InvalidRoom
from supermoves.plans import (behind_step, is_plan, is_right, is_shortest, is_standing, possible_steps, shortest_plan,
                              standings, start_of)
from supermoves.tops import fewest_with
from tests.helpers import (KINDS, PLACES, any_room, begin_of, changes, deep, end_of, is_right_standing, junk,
                           not_numbers, plain_search, plain_standings, plain_steps, refused, refuses, same,
                           searched_fewest, watched)
from tests.test_capacity import not_kinds, not_rooms
from tests.test_tops import any_runs, great_runs, small_runs

ROOM = (1, 0, [2])
FIVE = [(1, "cell"), (2, "top"), (3, "goal"), (2, "next"), (1, "next")]


def few_rooms():
    return [(cells, empty, tops) for cells in range(3) for empty in range(3) for tops in ([], [1], [2, 3], [1, 4])]


def all_standings(kind, room, many):
    """All standings, whether a plan comes to them or not, as tuples."""
    return [told for told in itertools.product(["base"] + PLACES, repeat=many) if is_right_standing(kind, room, told)]


def any_plan(chance, kind, room, many, length):
    """Any plan of about such a length, and its last standing."""
    plan, here = [], begin_of(many)
    for _ in range(length):
        found = plain_steps(kind, room, here)
        if not found:
            break
        step, here = chance.choice(found)
        plan.append(step)
    return plan, here


def right_plans(seed, number, most_many=5):
    """Tuples of a kind, a room, a number of cards and a right plan, most of them with detours."""
    chance = random.Random(seed)
    found = []
    while len(found) < number:
        kind, many = chance.choice(KINDS), chance.randint(1, most_many)
        room = any_room(chance, 2, 2, many, 0.5)
        plan, here = any_plan(chance, kind, room, many, chance.choice([0, 3, 10, 30]))
        rest = plain_search(kind, room, here)[0]
        if rest is not None:
            found.append((kind, room, many, plan + rest))
    return found


def not_plans():
    """What is no plan of the kind "over", the room ROOM and 3 cards."""
    bad = [value for value in junk() if value != []]
    bad += [[(1, "cell"), (2, "cell")], [(2, "top")], [(1, "next")], [(1, "base")], [(0, "cell")], [(4, "cell")],
            [(True, "cell")], [[1, "cell"]], [("1", "cell")], [(1, ["cell"])], tuple(FIVE), FIVE + [(3, "cell")],
            [(1, "goal")], [(1, "cell", 1)], [(-1, "cell")], [(10 ** 29, "cell")], [(1, "column")], [(1, "top")],
            [(1, "cell"), None], deep(29)]
    return bad


class Standings(unittest.TestCase):
    def test_all_lists_of_places(self):
        for kind, room, many in itertools.product(KINDS, few_rooms(), range(1, 4)):
            for told in itertools.product(["base"] + PLACES, repeat=many):
                self.assertIs(is_standing(kind, room, many, list(told)), is_right_standing(kind, room, told))

    def test_other_numbers_of_cards(self):
        for told in [("next", "base"), ("cell", "goal"), ("column", "column")]:
            for many in (1, 3, 24, 10 ** 29):
                self.assertIs(is_standing("over", (2, 2, []), many, list(told)), False)

    def test_what_is_no_standing(self):
        good = [list(told) for told in all_standings("whole", ROOM, 3)]
        for value in junk() + [other for one in good for other in changes(one)] + [tuple(good[0])]:
            wanted = any(same(value, one) for one in good)
            self.assertIs(watched(self, is_standing, "whole", ROOM, 3, value), wanted, value)

    def test_edges(self):
        self.assertIs(is_standing("into", (0, 0, []), 1, ["goal"]), False)
        self.assertIs(is_standing("into", (0, 0, []), 1, ["base"]), True)
        self.assertIs(is_standing("whole", (0, 0, []), 1, ["column"]), True)
        self.assertIs(is_standing("over", (0, 0, []), 1, ["column"]), False)
        self.assertIs(is_standing("over", (1, 0, []), 1, ["cell"]), True)
        self.assertIs(is_standing("over", (0, 1, []), 2, ["column", "goal"]), True)
        self.assertIs(is_standing("into", (0, 1, []), 2, ["column", "base"]), True)
        self.assertIs(is_standing("over", (0, 0, [1, 2]), 2, ["next", "top"]), False)
        self.assertIs(is_standing("over", (0, 0, [1, 2]), 2, ["top", "base"]), True)
        self.assertIs(is_standing("over", (1, 1, []), 2, ["goal", "base"]), False)

    def test_start_of(self):
        for many in range(1, 30):
            self.assertTrue(same(watched(self, start_of, many), list(begin_of(many))))
            self.assertIs(is_standing("into", (0, 0, []), many, start_of(many)), True)
        refuses(self, start_of, (3, InvalidNumber, not_numbers()))

    def test_errors(self):
        refuses(self, is_standing, ("over", InvalidKind, not_kinds()), (ROOM, InvalidRoom, not_rooms()),
                (2, InvalidNumber, not_numbers()), (["next", "base"], None, junk()))


class Steps(unittest.TestCase):
    def test_all_standings(self):
        for kind, room, many in itertools.product(KINDS, few_rooms()[::2], range(1, 4)):
            for here in all_standings(kind, room, many):
                wanted = plain_steps(kind, room, here)
                told = possible_steps(kind, room, list(here))
                self.assertTrue(same(told, [step for step, _ in wanted]))
                self.assertEqual(told, sorted(told))
                for step, behind in wanted:
                    self.assertTrue(same(behind_step(kind, room, list(here), step), list(behind)))

    def test_steps_can_be_taken_back(self):
        for kind, room in itertools.product(KINDS, few_rooms()):
            for here in all_standings(kind, room, 3)[::3]:
                for (card, place), behind in plain_steps(kind, room, here):
                    back = [step for step in possible_steps(kind, room, list(behind)) if step[0] == card
                            and behind_step(kind, room, list(behind), step) == list(here)]
                    one_way = card == 3 and (here[2] == "base" or place == "goal")
                    self.assertEqual(len(back), 0 if one_way else 1)

    def test_nothing_is_shared(self):
        for kind, room, here in [("over", (1, 1, [1]), ["next", "next", "base"]), ("whole", (0, 0, []), ["base"]),
                                 ("into", (1, 1, []), ["cell", "goal"])]:
            for step in watched(self, possible_steps, kind, room, here):
                watched(self, behind_step, kind, room, here, step)

    def test_the_own_column_of_a_whole_run(self):
        self.assertEqual(possible_steps("whole", (0, 0, []), ["base"]), [(1, "column"), (1, "goal")])
        self.assertEqual(possible_steps("over", (0, 0, []), ["base"]), [(1, "goal")])
        self.assertEqual(possible_steps("into", (0, 0, []), ["base"]), [])
        self.assertEqual(possible_steps("over", (1, 0, []), ["goal"]), [])

    def test_what_is_no_possible_step(self):
        for here in (["cell", "next", "base"], ["top", "column", "cell"], ["next", "next", "goal"]):
            good = [step for step, _ in plain_steps("over", (1, 1, [1, 2]), tuple(here))]
            bad = junk() + [(card, place) for card in range(-1, 5) for place in PLACES + ["base"]]
            bad += [other for step in good for other in changes(step)]
            for value in bad:
                if not any(same(value, step) for step in good):
                    refused(self, InvalidPlan, value, behind_step, "over", (1, 1, [1, 2]), here, value)

    def test_what_is_no_standing(self):
        good = [list(told) for told in all_standings("into", (1, 1, [1]), 2)]
        bad = junk() + [[]] + [other for one in good for other in changes(one)] + [tuple(good[0]), ["next"]]
        for value in bad:
            if isinstance(value, list) and value and set(map(str, value)) <= set(["base"] + PLACES):
                if all(type(one) is str for one in value) and is_right_standing("into", (1, 1, [1]), tuple(value)):
                    continue
            refused(self, InvalidPlan, value, possible_steps, "into", (1, 1, [1]), value)
            refused(self, InvalidPlan, value, behind_step, "into", (1, 1, [1]), value, None)

    def test_errors(self):
        kind, room = ("over", InvalidKind, not_kinds()), (ROOM, InvalidRoom, not_rooms())
        standing = (["next", "base"], InvalidPlan, junk() + [["next", "cell"], ["next"]])
        refuses(self, possible_steps, kind, room, standing)
        refuses(self, behind_step, kind, room, standing, ((1, "cell"), InvalidPlan, junk() + [(2, "goal"), (1, "next")]))


class Plans(unittest.TestCase):
    def test_plans_step_by_step(self):
        chance = random.Random(80)
        for kind, room, many in any_runs(81, 80, 8, 3, 3):
            plan, here = any_plan(chance, kind, room, many, 30)
            told = plain_standings(kind, room, many, plan)
            self.assertEqual(told[-1], here)
            self.assertTrue(same(watched(self, standings, kind, room, many, plan), [list(one) for one in told]))
            self.assertIs(watched(self, is_plan, kind, room, many, plan), True)
            self.assertIs(watched(self, is_right, kind, room, many, plan), here == end_of(many))
            for at in range(len(plan) + 1):
                step = (chance.randint(1, many), chance.choice(PLACES))
                other = plan[:at] + [step] + plan[at + chance.randint(0, 1):]
                wanted = plain_standings(kind, room, many, other)
                self.assertIs(is_plan(kind, room, many, other), wanted is not None)
                self.assertIs(is_right(kind, room, many, other), wanted is not None and wanted[-1] == end_of(many))
                if wanted is None:
                    refused(self, InvalidPlan, other, standings, kind, room, many, other)

    def test_right_plans(self):
        longer = 0
        for kind, room, many, plan in right_plans(82, 80):
            fewest = searched_fewest(kind, room, many)
            self.assertIs(is_right(kind, room, many, plan), True)
            self.assertIs(watched(self, is_shortest, kind, room, many, plan), len(plan) == fewest)
            self.assertIs(is_right(kind, room, many, plan[:-1]), False)
            self.assertIs(is_shortest(kind, room, many, plan[:-1]), False)
            longer += len(plan) > fewest
        self.assertGreater(longer, 20)

    def test_the_empty_plan(self):
        for kind in KINDS:
            self.assertIs(is_plan(kind, ROOM, 3, []), True)
            self.assertIs(is_right(kind, ROOM, 3, []), False)
            self.assertIs(is_shortest(kind, ROOM, 1, []), False)
            self.assertEqual(standings(kind, ROOM, 1, []), [["base"]])
        self.assertIs(is_shortest("into", (0, 0, []), 1, []), False)

    def test_one_card(self):
        for kind in KINDS:
            self.assertEqual(shortest_plan(kind, (0, 1, []), 1), [(1, "goal")])
            self.assertIs(is_shortest(kind, (0, 1, []), 1, [(1, "goal")]), True)
            self.assertIs(is_right(kind, (0, 2, []), 1, [(1, "column"), (1, "goal")]), True)
            self.assertIs(is_shortest(kind, (0, 2, []), 1, [(1, "column"), (1, "goal")]), False)
            self.assertIs(is_plan(kind, (0, 1, []), 1, [(1, "goal"), (1, "column")]), False)
            self.assertIs(is_plan(kind, (1, 1, []), 1, [(1, "cell"), (1, "base")]), False)
            self.assertIs(is_plan(kind, (1, 1, []), 1, [(1, "cell"), (1, "goal")]), True)
        self.assertIsNone(shortest_plan("into", (3, 0, []), 1))

    def test_what_is_no_plan(self):
        for value in not_plans():
            for judge in [is_plan, is_right, is_shortest]:
                self.assertIs(watched(self, judge, "over", ROOM, 3, value), False, value)
            refused(self, InvalidPlan, value, standings, "over", ROOM, 3, value)

    def test_slight_changes(self):
        for value in changes(FIVE):
            steps = isinstance(value, list) and all(any(same(step, (card, place)) for card in (1, 2, 3)
                                                        for place in PLACES) for step in value)
            told = plain_standings("over", ROOM, 3, value) if steps else None
            self.assertIs(is_plan("over", ROOM, 3, value), told is not None, value)
            self.assertIs(is_right("over", ROOM, 3, value), told is not None and told[-1] == end_of(3))

    def test_500_steps(self):
        begin = time.perf_counter()
        plan = [(1, "cell"), (1, "next")] * 249 + [(1, "column")]
        self.assertIs(is_plan("over", (6, 5, [2, 3]), 24, plan), True)
        self.assertEqual(len(standings("over", (6, 5, [2, 3]), 24, plan)), 500)
        self.assertIs(is_plan("over", (6, 5, [2, 3]), 24, plan + [(2, "next")]), False)
        self.assertIs(is_right("over", (6, 5, [2, 3]), 24, plan), False)
        self.assertLess(time.perf_counter() - begin, 5)

    def test_errors(self):
        kind, room = ("over", InvalidKind, not_kinds()), (ROOM, InvalidRoom, not_rooms())
        many = (3, InvalidNumber, not_numbers())
        for function in [is_plan, is_right, is_shortest]:
            refuses(self, function, kind, room, many, (FIVE, None, junk()))
        refuses(self, standings, kind, room, many, (FIVE, InvalidPlan, not_plans()))
        refuses(self, shortest_plan, kind, room, many)


class ShortestPlans(unittest.TestCase):
    def check(self, kind, room, many, steps):
        plan = shortest_plan(kind, room, many)
        self.assertEqual(None if plan is None else len(plan), steps, f"{kind} {room} {many}")
        if plan is not None:
            told = plain_standings(kind, room, many, plan)
            self.assertTrue(told is not None and told[-1] == end_of(many), f"{kind} {room} {many}")
            self.assertIs(is_right(kind, room, many, plan), True)
            self.assertIs(is_shortest(kind, room, many, plan), True)

    def test_a_search_through_standings(self):
        for kind, room, many in small_runs(4) + any_runs(83, 100, 7, 2, 2):
            self.check(kind, room, many, searched_fewest(kind, room, many))
            watched(self, shortest_plan, kind, room, many)

    def test_any_rooms(self):
        for kind, room, many in any_runs(84, 200):
            self.check(kind, room, many, fewest_with(kind, room, many))
            self.assertIs(shortest_plan(kind, room, many) is not None, can_pass(kind, room, many))

    def test_up_to_the_limits(self):
        begin = time.perf_counter()
        for kind, room, many in great_runs()[::4]:
            self.check(kind, room, many, fewest_with(kind, room, many))
        self.assertLess(time.perf_counter() - begin, 30)
