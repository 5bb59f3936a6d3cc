"""[25] to [28]: partings, one top more, and tops enough."""

import functools
import itertools
import random
import time
import unittest

from supermoves.errors import InvalidKind, InvalidNumber, InvalidPlan, InvalidRoom
from supermoves.helped import (best_top, cost_of_parting, first_parting, how_many_partings, is_least_parting,
                               tops_within)
from supermoves.tops import fewest_with
from tests.helpers import (KINDS, any_room, changes, junk, not_counts, not_numbers, refused, refuses, same, searched,
                           searched_fewest, watched)
from tests.test_bars import lots_of
from tests.test_capacity import not_kinds, not_rooms
from tests.test_tops import any_runs, great_runs, small_runs

PIECE_PLACES = ["cell", "column", "top"]


@functools.lru_cache(maxsize=None)
def all_partings(many):
    """All partings of so many cards, in order."""
    def from_card(low):
        if low == many:
            return [[]]
        return [[(place, low, high)] + rest for place in PIECE_PLACES for high in range(low, many)
                for rest in from_card(high + 1)]
    return sorted(from_card(1))


def is_plainly_parting(many, value):
    return any(same(value, one) for one in all_partings(many))


def stretch_steps(kind, room, low, high):
    """The fewest steps of a stretch as a run of its own, by going through standings."""
    cells, empty, tops = room
    return searched(kind, cells, empty, tuple(top - low + 1 for top in tops if low <= top < high), high - low + 1)[0]


def plain_cost(kind, room, parting):
    """As [24] and [25] tell it, piece by piece."""
    cells, empty, tops = room
    if kind == "into" and empty == 0:
        return None
    total = 1
    for place, low, high in parting:
        last_one = 1 if kind == "into" else 0
        if place == "cell":
            if cells == 0 or low != high:
                return None
            cells -= 1
            total += 2
            continue
        if place == "column" and empty <= last_one or place == "top" and high not in tops:
            return None
        way = {"column": "into", "top": "over"}[place]
        there = stretch_steps(way, (cells, empty, tops), low, high)
        back = stretch_steps(way, (cells, empty + {"over": 0, "into": -1, "whole": 1}[kind], tops), low, high)
        if there is None or back is None:
            return None
        total += there + back
        empty -= place == "column"
    return total


def few_runs():
    """Runs for which all partings are gone through."""
    chance = random.Random(70)
    found = small_runs(4, 2, 2) + small_runs(3, 3, 3)
    return found + [(chance.choice(KINDS), any_room(chance, 2, 3, many, 0.4), many)
                    for many in (5, 6) for _ in range(30)]


class Partings(unittest.TestCase):
    def test_all_partings(self):
        for kind, room, many in few_runs():
            costs = {}
            for number, parting in enumerate(all_partings(many)):
                costs[number] = plain_cost(kind, room, parting)
                told = cost_of_parting(kind, room, many, parting)
                self.assertEqual(told, costs[number], f"{kind} {room} {many} {parting}")
            good = [cost for cost in costs.values() if cost is not None]
            least = min(good, default=None)
            self.assertEqual(fewest_with(kind, room, many), least)
            self.assertEqual(searched_fewest(kind, room, many), least)
            best = [all_partings(many)[number] for number in costs if costs[number] == least and least is not None]
            self.assertTrue(same(watched(self, first_parting, kind, room, many), (best + [None])[0]))
            self.assertEqual(watched(self, how_many_partings, kind, room, many), len(best))
            for number in list(costs)[::7]:
                wanted = least is not None and costs[number] == least
                self.assertIs(is_least_parting(kind, room, many, all_partings(many)[number]), wanted)

    def test_is_least_parting(self):
        for kind, room, many in [("over", (1, 0, [2]), 3), ("into", (1, 2, [1, 3]), 4), ("whole", (0, 1, [2]), 4),
                                 ("into", (3, 1, []), 1), ("into", (3, 0, []), 1), ("over", (0, 0, []), 2)]:
            good = [parting for parting in all_partings(many)
                    if plain_cost(kind, room, parting) is not None
                    and plain_cost(kind, room, parting) == searched_fewest(kind, room, many)]
            self.assertEqual(len(good), how_many_partings(kind, room, many))
            for value in junk() + good + [other for one in good for other in changes(one)]:
                wanted = any(same(value, one) for one in good)
                self.assertIs(watched(self, is_least_parting, kind, room, many, value), wanted, f"{value}")

    def test_costs_that_are_none(self):
        self.assertIsNone(watched(self, cost_of_parting, "over", (3, 0, []), 3, [("cell", 1, 2)]))
        self.assertIsNone(cost_of_parting("over", (1, 0, []), 3, [("cell", 1, 1), ("cell", 2, 2)]))
        self.assertIsNone(cost_of_parting("over", (1, 1, [1]), 3, [("top", 1, 2)]))
        self.assertIsNone(cost_of_parting("into", (3, 0, [1]), 2, [("top", 1, 1)]))
        self.assertIsNone(cost_of_parting("into", (3, 1, []), 2, [("column", 1, 1)]))
        self.assertIsNone(cost_of_parting("into", (0, 1, [1, 2]), 3, [("column", 1, 1), ("top", 2, 2)]))
        self.assertEqual(watched(self, cost_of_parting, "into", (0, 2, []), 2, [("column", 1, 1)]), 3)
        self.assertEqual(cost_of_parting("into", (1, 1, [2]), 3, [("top", 1, 2)]), 7)
        self.assertIsNone(cost_of_parting("into", (0, 1, [2]), 3, [("top", 1, 2)]))
        self.assertEqual(cost_of_parting("over", (0, 1, [2]), 3, [("top", 1, 2)]), 7)

    def test_what_is_no_parting(self):
        bad = [value for value in junk() if value != []]
        for many in (1, 2, 4):
            good = all_partings(many)
            for value in bad + [other for one in good[::5] for other in changes(one)]:
                if not is_plainly_parting(many, value):
                    refused(self, InvalidPlan, value, cost_of_parting, "over", (3, 3, [1, 2, 3]), many, value)
        for value in ([], [("cell", 1, 1)], [("cell", 2, 2), ("cell", 1, 1)], [("cell", 1, 1), ("cell", 1, 1)],
                      [("cell", 1, 1), ("column", 2, 3)], [("base", 1, 2)], [("cell", 2, 1), ("cell", 2, 2)],
                      [("cell", True, 1), ("cell", 2, 2)], [["cell", 1, 1], ("cell", 2, 2)]):
            refused(self, InvalidPlan, value, cost_of_parting, "into", (1, 0, []), 3, value)

    def test_errors(self):
        kind, room = ("over", InvalidKind, not_kinds()), ((1, 1, [2]), InvalidRoom, not_rooms())
        many = (3, InvalidNumber, not_numbers())
        refuses(self, cost_of_parting, kind, room, many, ([("cell", 1, 1), ("top", 2, 2)], InvalidPlan, junk()))
        for function in [first_parting, how_many_partings, best_top]:
            refuses(self, function, kind, room, many)
        refuses(self, is_least_parting, kind, room, many, ([], None, junk()))
        refuses(self, tops_within, kind, room, many, (5, InvalidNumber, not_counts()))
        for value in ([None], [("cell", 1, 1)], []):
            refused(self, InvalidPlan, value, cost_of_parting, "into", (1, 0, []), 10 ** 29, value)

    def test_up_to_the_limits(self):
        begin = time.perf_counter()
        for kind, room, many in great_runs()[::4]:
            steps = fewest_with(kind, room, many)
            parting = first_parting(kind, room, many)
            self.assertIs(parting is None, steps is None)
            if steps is not None:
                self.assertEqual(cost_of_parting(kind, room, many, parting), steps)
                self.assertIs(is_least_parting(kind, room, many, parting), True)
                self.assertGreater(how_many_partings(kind, room, many), 0)
        self.assertLess(time.perf_counter() - begin, 40)


class FurtherTops(unittest.TestCase):
    def test_best_top(self):
        for kind, room, many in small_runs(4, 1, 2) + any_runs(71, 60, 7, 1, 2):
            cells, empty, tops = room
            here = searched_fewest(kind, room, many)
            with_one = [(searched_fewest(kind, (cells, empty, sorted(tops + [top])), many), top)
                        for top in range(1, many) if top not in tops]
            least = min([steps for steps, _ in with_one if steps is not None], default=None)
            wanted = None
            if least is not None and (here is None or least < here):
                wanted = (min(top for steps, top in with_one if steps == least), least)
            self.assertEqual(watched(self, best_top, kind, room, many), wanted, f"{kind} {room} {many}")

    def test_no_top_helps_into_nothing(self):
        self.assertIsNone(best_top("into", (0, 0, []), 2))
        self.assertEqual(best_top("into", (0, 1, []), 2), (1, 3))
        self.assertIsNone(best_top("over", (0, 0, [1, 2]), 3))
        self.assertIsNone(best_top("over", (0, 0, []), 1))
        self.assertIsNone(best_top("over", (0, 0, []), 3))

    def test_tops_within(self):
        for kind, room, many in small_runs(4, 1, 1) + any_runs(72, 25, 6, 2, 2):
            cells, empty, tops = room
            told = [(lot, searched_fewest(kind, (cells, empty, sorted(tops + lot)), many))
                    for lot in lots_of([top for top in range(1, many) if top not in tops])]
            for most in [0, 1, 2 * many - 2, 2 * many - 1, 2 * many, 2 * many + 3, 10 ** 29]:
                good = [lot for lot, steps in told if steps is not None and steps <= most]
                wanted = (good + [None])[0]
                self.assertTrue(same(watched(self, tops_within, kind, room, many, most), wanted))
                none = most < 2 * many - 1 or kind == "into" and empty == 0
                self.assertIs(wanted is None, none)

    def test_up_to_the_limits(self):
        begin = time.perf_counter()
        for kind, room, many in great_runs()[::9]:
            told = best_top(kind, room, many)
            if told is not None:
                room = (room[0], room[1], sorted(room[2] + [told[0]]))
                self.assertEqual(fewest_with(kind, room, many), told[1])
        for kind, cells, empty in itertools.product(KINDS, (0, 1, 6), (1, 5)):
            self.assertEqual(len(tops_within(kind, (cells, empty, [9]), 8, 15)), max(0, 7 - cells - empty + (
                {"over": 0, "into": 1, "whole": 0}[kind])))
        self.assertLess(time.perf_counter() - begin, 40)
