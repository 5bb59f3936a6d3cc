"""[13] to [15]: how many cards can go over."""

import itertools
import random
import time
import unittest

from supermoves.capacity import (barring, bound, can_pass, first_bar, greatest, is_bar, least_cells, least_empty,
                                 trades)
from supermoves.errors import InvalidKind, InvalidNumber, InvalidRoom
from tests.helpers import KINDS, changes, junk, not_counts, not_numbers, refuses, same, searched_fewest, watched
from tests.test_positions import plainly_room

GREAT = 10 ** 30 - 1


def not_kinds():
    return junk() + ["Over", "other", "over "]


def not_rooms():
    return junk() + [(1, 0, [4, 1]), (1, 0, [1, 1]), (1, 0, [0]), (1, 0, (1,)), (True, 0, []), (0, False, []),
                     (0, 0, [True]), (-1, 0, []), (0, -1, []), [0, 0, []], (0, 0)]


def not_tops():
    return [value for value in junk() if value != []] + [[2, 1], [1, 1], [0], (1,), [True], [-1], ["1"], [1, None]]


def small_rooms():
    """Rooms with few cells, columns and tops."""
    lots = [list(lot) for many in range(4) for lot in itertools.combinations(range(1, 8), many)]
    return [(cells, empty, lots[at]) for cells in range(4) for empty in range(4)
            for at in range((cells + empty) % 3, len(lots), 3)]


def plain_bound(kind, cells, empty):
    if kind == "into":
        if empty == 0:
            return 0
        empty -= 1
    return (cells + 1) * 2 ** empty


def plain_stretches(tops, many):
    marks = sorted({0, many} | {top for top in tops if top < many})
    return [(marks[at], marks[at + 1]) for at in range(len(marks) - 1)]


def plainly_goes(kind, room, many):
    most = plain_bound(kind, room[0], room[1])
    return all(high - low <= most for low, high in plain_stretches(room[2], many))


class Bounds(unittest.TestCase):
    def test_bounds(self):
        for kind in KINDS:
            for room in small_rooms():
                self.assertEqual(watched(self, bound, kind, room), plain_bound(kind, room[0], room[1]))
        self.assertEqual(bound("over", (GREAT, 100, [])), 10 ** 30 * 2 ** 100)
        self.assertEqual(bound("into", (GREAT, 100, [])), 10 ** 30 * 2 ** 99)
        self.assertEqual(bound("into", (GREAT, 0, [1, 2])), 0)

    def test_one_more(self):
        for kind in KINDS:
            for cells, empty, tops in small_rooms():
                here = bound(kind, (cells, empty, tops))
                if here:
                    self.assertEqual(bound(kind, (cells, empty + 1, tops)), 2 * here)
                    more = 2 ** empty // (2 if kind == "into" else 1)
                    self.assertEqual(bound(kind, (cells + 1, empty, tops)), here + more)

    def test_can_pass(self):
        for kind in KINDS:
            for room in small_rooms():
                for many in range(1, 20):
                    self.assertIs(can_pass(kind, room, many), plainly_goes(kind, room, many))

    def test_can_pass_if_there_is_a_plan(self):
        for kind in KINDS:
            for cells, empty in [(0, 0), (1, 0), (0, 1), (2, 0), (1, 1), (0, 2)]:
                for lot in range(16):
                    room = (cells, empty, [top for top in range(1, 5) if lot >> top - 1 & 1])
                    for many in range(1, 7 if cells + empty < 2 else 6):
                        wanted = searched_fewest(kind, room, many) is not None
                        self.assertIs(can_pass(kind, room, many), wanted, f"{kind} {room} {many}")

    def test_greatest(self):
        for kind in KINDS:
            for room in small_rooms():
                told = watched(self, greatest, kind, room)
                self.assertEqual([many for many in range(1, 60) if plainly_goes(kind, room, many)],
                                 list(range(1, told + 1)))

    def test_great_numbers(self):
        begin = time.perf_counter()
        tops = [10 ** 29 + at * 10 ** 28 for at in range(20)]
        self.assertEqual(greatest("over", (10 ** 29 - 1, 0, tops)), tops[-1] + 10 ** 29)
        self.assertEqual(greatest("over", (10 ** 29 - 2, 0, tops)), 10 ** 29 - 1)
        self.assertEqual(greatest("into", (GREAT, 100, [])), 10 ** 30 * 2 ** 99)
        self.assertIs(can_pass("over", (GREAT - 1, 0, []), GREAT), True)
        self.assertIs(can_pass("over", (GREAT - 2, 0, []), GREAT), False)
        self.assertIs(can_pass("whole", (0, 99, [2 ** 98 - 1]), 2 ** 99), True)
        self.assertEqual(least_cells("over", 100, [], GREAT), 0)
        self.assertEqual(least_cells("over", 0, [], GREAT), GREAT - 1)
        self.assertEqual(least_empty("over", 0, [], GREAT), 100)
        self.assertEqual(least_empty("into", 0, [], GREAT), 101)
        rows = watched(self, trades, "whole", [], GREAT)
        self.assertEqual([empty for _, empty in rows], list(range(100, -1, -1)))
        for cells, empty in rows:
            self.assertEqual(cells, (GREAT + 2 ** empty - 1) // 2 ** empty - 1)
        self.assertEqual(len(barring("into", (GREAT, 0, list(range(1, 21))), GREAT)), 21)
        self.assertLess(time.perf_counter() - begin, 5)

    def test_errors(self):
        kind, room = ("over", InvalidKind, not_kinds()), ((1, 1, [2]), InvalidRoom, not_rooms())
        many = (4, InvalidNumber, not_numbers())
        self.assertFalse([value for value in not_rooms() if plainly_room(value)])
        for function in [bound, greatest]:
            refuses(self, function, kind, room)
        for function in [can_pass, barring, first_bar]:
            refuses(self, function, kind, room, many)
        refuses(self, is_bar, kind, room, many, ((0, 2), None, junk()))


class Bars(unittest.TestCase):
    def test_bars(self):
        for kind in KINDS:
            for room in small_rooms():
                most = plain_bound(kind, room[0], room[1])
                for many in range(1, 12):
                    bars = [row for row in plain_stretches(room[2], many) if row[1] - row[0] > most]
                    self.assertEqual(watched(self, barring, kind, room, many), bars)
                    self.assertEqual(watched(self, first_bar, kind, room, many), (bars + [None])[0])
                    self.assertIs(can_pass(kind, room, many), bars == [])

    def test_is_bar(self):
        for kind, room, many in [("over", (0, 1, [3, 8]), 12), ("into", (3, 0, [1, 2]), 3), ("whole", (0, 0, [1]), 3),
                                 ("over", (0, 0, []), 2), ("over", (5, 5, [1]), 9)]:
            bars = barring(kind, room, many)
            for low in range(-1, many + 2):
                for high in range(-1, many + 2):
                    self.assertIs(is_bar(kind, room, many, (low, high)), (low, high) in bars)
            for value in junk() + [other for bar in bars for other in changes(bar)] + [bars, [list(bars)]]:
                wanted = any(same(value, bar) for bar in bars)
                self.assertIs(watched(self, is_bar, kind, room, many, value), wanted, value)
        self.assertIs(is_bar("into", (0, 0, [1, 3]), 3, (False, 1)), False)
        self.assertIs(is_bar("into", (0, 0, [1, 3]), 3, (0, True)), False)


class Enough(unittest.TestCase):
    def lots(self):
        return [[], [1], [4], [2, 4], [3, 4, 9], [1, 2, 3, 4, 5, 6, 7, 8], [20, 30]]

    def test_least_cells_and_columns(self):
        for kind in KINDS:
            for tops in self.lots():
                for many in range(1, 20):
                    for number in range(6):
                        cells = [f for f in range(25) if plainly_goes(kind, (f, number, tops), many)]
                        self.assertEqual(watched(self, least_cells, kind, number, tops, many), (cells + [None])[0])
                        empty = [e for e in range(8) if plainly_goes(kind, (number, e, tops), many)]
                        self.assertEqual(watched(self, least_empty, kind, number, tops, many), empty[0])

    def test_none_is_enough_into_nothing_alone(self):
        self.assertIsNone(least_cells("into", 0, [1], 2))
        self.assertEqual(least_cells("into", 1, [1], 2), 0)
        self.assertEqual(least_cells("over", 0, [1], 2), 0)
        self.assertEqual(least_empty("into", 5, [], 1), 1)

    def test_trades(self):
        for kind in KINDS:
            for tops in self.lots():
                for many in range(1, 20):
                    goes = {(f, e) for f in range(25) for e in range(8) if plainly_goes(kind, (f, e, tops), many)}
                    wanted = sorted((f, e) for f, e in goes if (f - 1, e) not in goes and (f, e - 1) not in goes)
                    self.assertTrue(same(watched(self, trades, kind, tops, many), wanted))

    def test_errors(self):
        kind, tops = ("over", InvalidKind, not_kinds()), ([2], InvalidRoom, not_tops())
        many, count = (4, InvalidNumber, not_numbers()), (1, InvalidNumber, not_counts())
        refuses(self, least_cells, kind, count, tops, many)
        refuses(self, least_cells, ("into", InvalidKind, not_kinds()), (0, InvalidNumber, not_counts()), tops, many)
        refuses(self, least_empty, kind, count, tops, many)
        refuses(self, trades, kind, tops, many)

    def test_any_rooms(self):
        chance = random.Random(40)
        for _ in range(300):
            kind, many = chance.choice(KINDS), chance.randint(1, 200)
            tops = sorted(chance.sample(range(1, 220), chance.randint(0, 20)))
            for cells, empty in trades(kind, tops, many):
                self.assertTrue(plainly_goes(kind, (cells, empty, tops), many))
                self.assertEqual(least_cells(kind, empty, tops, many), cells)
                self.assertEqual(least_empty(kind, cells, tops, many), empty)
            room = (chance.randint(0, 6), chance.randint(0, 4), tops)
            top = greatest(kind, room)
            self.assertTrue(top == 0 or plainly_goes(kind, room, top))
            self.assertFalse(plainly_goes(kind, room, top + 1))
