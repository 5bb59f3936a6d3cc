"""[45] and [46]: rooms that are enough."""

import itertools
import random
import time
import unittest

from supermoves.errors import InvalidKind, InvalidNumber, InvalidRoom
from supermoves.exchange import cheapest_room, least_rooms
from supermoves.tops import fewest_with
from tests.helpers import KINDS, not_counts, not_numbers, refuses, same, searched_fewest, watched
from tests.test_bars import lots_of
from tests.test_capacity import GREAT, not_kinds, not_tops


def not_bounds():
    return [value for value in not_counts() if value is not None]


def bounds_for(many):
    least = 2 * many - 1
    return [None, 0, 1, least - 1, least, least + 1, least + 2, least + 3, least + 6, GREAT]


def enough(steps, kind, tops, many, bound, room):
    told = steps(kind, (room[0], room[1], tops), many)
    return told is not None and (bound is None or told <= bound)


def plain_rooms(steps, kind, tops, many, bound, most):
    """All rooms up to some size that are enough."""
    return [room for room in itertools.product(range(most + 1), repeat=2)
            if enough(steps, kind, tops, many, bound, room)]


def plainly_least(rooms):
    return [(cells, empty) for cells, empty in rooms
            if (cells - 1, empty) not in rooms and (cells, empty - 1) not in rooms]


def wanted_rooms():
    """Kinds, tops, numbers of cards and bounds, for which all rooms are gone through."""
    found = [(kind, tops, many, bound) for kind in KINDS for many in range(1, 5) for tops in lots_of(range(1, many + 1))
             for bound in bounds_for(many)]
    chance = random.Random(120)
    for _ in range(12):
        tops = [top for top in range(1, 7) if chance.random() < 0.3]
        found.append((chance.choice(KINDS), tops, 5, chance.choice(bounds_for(5))))
    return found


class Rooms(unittest.TestCase):
    def test_all_small_rooms(self):
        for kind, tops, many, bound in wanted_rooms():
            rooms = plain_rooms(searched_fewest, kind, tops, many, bound, many + 1)
            told = watched(self, least_rooms, kind, tops, many, bound)
            self.assertTrue(same(told, plainly_least(rooms)), f"{kind} {tops} {many} {bound}")
            self.assertIs(told == [], bound is not None and bound < 2 * many - 1)
            for (cells, empty), (more, less) in zip(told, told[1:]):
                self.assertTrue(0 < empty - less <= more - cells)

    def test_more_cards(self):
        chance = random.Random(121)
        for kind in KINDS:
            for many in (6, 7, 8):
                tops = [top for top in range(1, many) if chance.random() < 0.2]
                for bound in bounds_for(many):
                    rooms = plain_rooms(fewest_with, kind, tops, many, bound, many + 1)
                    self.assertEqual(least_rooms(kind, tops, many, bound), plainly_least(rooms))

    def test_edges(self):
        for bound in [None, 1, GREAT]:
            self.assertEqual(least_rooms("over", [], 1, bound), [(0, 0)])
            self.assertEqual(least_rooms("whole", [1, 2], 1, bound), [(0, 0)])
            self.assertEqual(least_rooms("into", [], 1, bound), [(0, 1)])
        self.assertEqual(least_rooms("over", [1, 2, 3], 4, 7), [(0, 0)])
        self.assertEqual(least_rooms("into", [1, 2, 3], 4, 7), [(0, 1)])
        self.assertEqual(least_rooms("over", [], 1, 0), [])
        self.assertEqual(least_rooms("over", [], 8, 14), [])
        self.assertEqual(least_rooms("over", [], 10 ** 29, 10 ** 29), [])
        self.assertEqual(least_rooms("into", [], 8, 15)[-1], (7, 1))

    def test_up_to_the_limits(self):
        begin = time.perf_counter()
        tops = [1, 5] + list(range(9, 27))
        for kind in KINDS:
            for bound in bounds_for(8) + [25, 33, 41]:
                for cells, empty in least_rooms(kind, tops, 8, bound):
                    steps = fewest_with(kind, (cells, empty, tops), 8)
                    self.assertTrue(bound is None or steps <= bound)
                cheapest_room(kind, [], 8, bound, GREAT, GREAT)
        self.assertLess(time.perf_counter() - begin, 20)


class Cheapest(unittest.TestCase):
    def test_all_small_rooms(self):
        for kind, tops, many, bound in wanted_rooms()[::7]:
            rooms = plain_rooms(searched_fewest, kind, tops, many, bound, many + 1)
            for cell_price, column_price in [(0, 0), (0, 1), (1, 0), (1, 1), (2, 3), (3, 2), (7, 1), (4, GREAT)]:
                told = [(cells * cell_price + empty * column_price, cells, empty) for cells, empty in rooms]
                self.assertTrue(same(cheapest_room(kind, tops, many, bound, cell_price, column_price),
                                     min(told, default=None)), f"{kind} {tops} {many} {bound} {cell_price}")

    def test_edges(self):
        self.assertEqual(watched(self, cheapest_room, "over", [], 4, None, 2, 3), (5, 1, 1))
        self.assertEqual(cheapest_room("over", [], 4, None, 0, 0), (0, 0, 2))
        self.assertEqual(cheapest_room("over", [], 4, None, 0, 1), (0, 3, 0))
        self.assertEqual(cheapest_room("over", [], 4, None, 1, 0), (0, 0, 2))
        self.assertIsNone(cheapest_room("over", [], 4, 6, 0, 0))
        self.assertIsNone(cheapest_room("into", [2], 4, 0, 1, 1))
        self.assertEqual(cheapest_room("into", [2], 1, 1, 1, GREAT), (GREAT, 0, 1))


class Errors(unittest.TestCase):
    def test_errors(self):
        kind, tops = ("over", InvalidKind, not_kinds()), ([2], InvalidRoom, not_tops())
        many, bound = (3, InvalidNumber, not_numbers()), (7, InvalidNumber, not_bounds())
        price = (2, InvalidNumber, not_counts())
        refuses(self, least_rooms, kind, tops, many, bound)
        refuses(self, cheapest_room, kind, tops, many, bound, price, price)
        refuses(self, cheapest_room, kind, tops, many, (0, InvalidNumber, not_bounds()), price, price)
