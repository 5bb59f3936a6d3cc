"""[24] and [26]: the fewest steps beside helping tops."""

import itertools
import random
import time
import unittest

from supermoves.capacity import can_pass, greatest
from supermoves.errors import InvalidKind, InvalidNumber, InvalidRoom
from supermoves.prices import fewest
from supermoves.tops import fewest_with
from tests.helpers import KINDS, any_room, not_numbers, refuses, searched_fewest, watched
from tests.test_bars import lots_of
from tests.test_capacity import GREAT, not_kinds, not_rooms


def small_runs(most_many, most_cells=2, most_empty=2):
    """All kinds, rooms and numbers of cards up to some size, with all lots of tops that are not idle."""
    return [(kind, (cells, empty, tops), many)
            for kind in KINDS for cells in range(most_cells + 1) for empty in range(most_empty + 1)
            for many in range(1, most_many + 1) for tops in lots_of(range(1, many))]


def any_runs(seed, number, most_many=24, most_cells=6, most_empty=5):
    """Any kinds, rooms and numbers of cards, the same ones each time."""
    chance = random.Random(seed)
    found = []
    for _ in range(number):
        many = chance.randint(1, most_many)
        found.append((chance.choice(KINDS), any_room(chance, most_cells, most_empty, many, chance.random()), many))
    return found


def great_runs():
    """Runs at the limits, with tops here and there."""
    lots = [[], [12], [2, 4, 6, 10, 12, 13, 19, 21, 22, 23], [3, 4, 5, 8, 12, 13, 15, 22], list(range(1, 20)),
            list(range(1, 24, 3)), [5, 10, 15, 20, 24, 25, GREAT]]
    return [(kind, (cells, empty, tops), 24) for kind in KINDS for tops in lots
            for cells, empty in [(6, 5), (4, 5), (2, 3), (1, 5), (0, 5), (6, 2)]]


class FewestWith(unittest.TestCase):
    def test_a_search_through_standings(self):
        for kind, room, many in small_runs(5) + small_runs(4, 3, 3):
            self.assertEqual(fewest_with(kind, room, many), searched_fewest(kind, room, many), f"{kind} {room} {many}")

    def test_a_search_for_more_cards(self):
        for kind, room, many in any_runs(60, 150, 8, 2, 2):
            told = watched(self, fewest_with, kind, room, many)
            self.assertEqual(told, searched_fewest(kind, room, many), f"{kind} {room} {many}")

    def test_none_just_where_it_can_not_go(self):
        for kind, room, many in small_runs(7, 1, 2) + any_runs(61, 400):
            self.assertIs(fewest_with(kind, room, many) is not None, can_pass(kind, room, many))

    def test_without_tops_it_is_the_sum_of_prices(self):
        for kind, cells, empty in itertools.product(KINDS, range(7), range(6)):
            if kind == "into" and empty == 0:
                continue
            for many in range(1, 25, 1 + (cells + empty) % 3):
                self.assertEqual(fewest_with(kind, (cells, empty, []), many), fewest(kind, cells, empty, many))

    def test_greatest_run_and_one_card_more(self):
        for kind, room, many in any_runs(62, 200, 12, 1, 2):
            run = greatest(kind, room)
            if run < 30:
                self.assertIsNone(fewest_with(kind, room, run + 1))
                if run > 0:
                    self.assertIsNotNone(fewest_with(kind, room, run))

    def test_edges(self):
        for kind in KINDS:
            self.assertEqual(fewest_with(kind, (0, 1, []), 1), 1)
            self.assertEqual(fewest_with(kind, (GREAT, 1, []), 1), 1)
            self.assertIsNone(fewest_with("into", (6, 0, [1, 2]), 1))
        self.assertEqual(fewest_with("into", (1, 1, []), 2), 3)
        self.assertIsNone(fewest_with("into", (0, 1, []), 2))
        self.assertEqual(fewest_with("into", (0, 1, [1]), 2), 3)
        self.assertEqual(fewest_with("over", (0, 0, []), 1), 1)
        self.assertIsNone(fewest_with("over", (0, 0, [2, 3]), 2))
        self.assertIsNone(fewest_with("whole", (0, 0, []), 2))
        self.assertEqual(fewest_with("whole", (0, 0, [1]), 2), 3)
        self.assertEqual(fewest_with("over", (1, 0, [2, 4, 6]), 8), 21)
        self.assertEqual(searched_fewest("over", (1, 0, [2, 4, 6]), 8), 21)
        self.assertIsNone(fewest_with("over", (1, 0, [2, 4, 6]), 9))

    def test_up_to_the_limits(self):
        begin = time.perf_counter()
        for kind, room, many in great_runs()[::2]:
            told = fewest_with(kind, room, many)
            self.assertIs(told is not None, can_pass(kind, room, many))
        self.assertEqual(fewest_with("over", (6, 5, []), 24), fewest("over", 6, 5, 24))
        self.assertEqual([fewest_with("over", (2, empty, []), 36) for empty in (4, 5, 6)], [189, 159, 125])
        self.assertLess(time.perf_counter() - begin, 20)

    def test_errors(self):
        refuses(self, fewest_with, ("over", InvalidKind, not_kinds()), ((1, 1, [2]), InvalidRoom, not_rooms()),
                (4, InvalidNumber, not_numbers()))
        refuses(self, fewest_with, ("into", InvalidKind, not_kinds()), ((1, 0, [2]), InvalidRoom, not_rooms()),
                (4, InvalidNumber, not_numbers()))


class WhatHoldsForAll(unittest.TestCase):
    def test_tops_for_the_last_card_and_beyond_are_idle(self):
        for kind, (cells, empty, tops), many in any_runs(63, 150):
            less = (cells, empty, [top for top in tops if top < many])
            more = (cells, empty, less[2] + [many, many + 1, many + 10, GREAT])
            self.assertEqual(fewest_with(kind, more, many), fewest_with(kind, less, many))

    def test_one_more_is_never_worse(self):
        for kind, (cells, empty, tops), many in any_runs(64, 60, 14):
            here = fewest_with(kind, (cells, empty, tops), many)
            rooms = [(cells + 1, empty, tops), (cells, empty + 1, tops)]
            rooms += [(cells, empty, sorted(set(tops + [top]))) for top in range(1, many)]
            if here is not None:
                self.assertEqual(here % 2, 1)
                self.assertTrue(all(fewest_with(kind, room, many) <= here for room in rooms))

    def test_tops_for_all_cards(self):
        for kind, cells, empty in itertools.product(KINDS, range(3), range(3)):
            for many in range(1, 25):
                wanted = None if kind == "into" and empty == 0 else 2 * many - 1
                self.assertEqual(fewest_with(kind, (cells, empty, list(range(1, many))), many), wanted)

    def test_tops_for_the_first_cards(self):
        for kind, (cells, empty, tops), many in any_runs(65, 100):
            here = fewest_with(kind, (cells, empty, tops), many)
            for first in range(1, 4):
                with_first = list(range(1, first + 1)) + [top + first for top in tops]
                told = fewest_with(kind, (cells, empty, with_first), many + first)
                self.assertEqual(told, None if here is None else here + 2 * first)

    def test_whole_is_into_with_one_column_more(self):
        for _, (cells, empty, tops), many in any_runs(66, 200):
            self.assertEqual(fewest_with("whole", (cells, empty, tops), many),
                             fewest_with("into", (cells, empty + 1, tops), many))
