"""[65] to [69]: price lists for all numbers of cells at once."""

import math
import random
import time
import unittest

from supermoves.capacity import greatest, least_cells
from supermoves.doubling import whole_cost
from supermoves.errors import InvalidKind, InvalidNumber
from supermoves.pieces import (cells_for, cells_within, cost_line, how_many_at, mean_price, rows_hold, rows_of,
                               steps_by_rows)
from supermoves.prices import fewest, prices
from tests.helpers import KINDS, not_counts, not_numbers, refuses, same, watched
from tests.test_capacity import GREAT, not_kinds
from tests.test_prices import plain_prices, told_together

ALL = ([("over", empty) for empty in range(8)] + [("into", empty) for empty in range(1, 8)]
       + [("whole", empty) for empty in range(7)])
MANY = 150


def told_by(rows, cells):
    """What rows tell for a number of cells."""
    told = [(price, number + each * cells) for price, number, each in rows]
    return [row for row in told if row[1] != 0]


def wrong_columns(kind):
    """What is no number of empty columns."""
    return not_counts() + {"over": [8, 9], "into": [0, 8], "whole": [7, 8]}[kind] + [GREAT, -1]


class Rows(unittest.TestCase):
    def test_rows_tell_all_price_lists(self):
        chance = random.Random(190)
        for kind, empty in ALL:
            least, rows = watched(self, rows_of, kind, empty)
            great = [chance.randint(MANY, 10 ** chance.randint(3, 29)) for _ in range(9)]
            for cells in list(range(least, MANY)) + great:
                self.assertEqual(told_by(rows, cells), prices(kind, cells, empty))
            if least > 0:
                self.assertNotEqual(told_by(rows, least - 1), prices(kind, least - 1, empty))
            self.assertEqual([row[0] for row in rows], sorted({row[0] for row in rows}))
            self.assertTrue(all(type(row) is tuple and len(row) == 3 and row[1:] != (0, 0) for row in rows))

    def test_against_plain_lists(self):
        for kind, empty in ALL:
            least, rows = rows_of(kind, empty)
            if empty < 5:
                for cells in [least, least + 1, least + 4]:
                    self.assertEqual(told_by(rows, cells), told_together(plain_prices(kind, cells, empty)))
                if least > 0:
                    self.assertNotEqual(told_by(rows, least - 1), told_together(plain_prices(kind, least - 1, empty)))

    def test_rows_hold(self):
        for kind, empty in ALL:
            least, rows = rows_of(kind, empty)
            for cells in list(range(40)) + [GREAT, GREAT - 1]:
                self.assertIs(watched(self, rows_hold, kind, empty, cells), cells >= least)
                self.assertIs(told_by(rows, cells) == prices(kind, cells, empty), cells >= least)

    def test_steps_by_rows(self):
        seen = {"held": 0, "below": 0, "too many": 0}
        for kind, empty in ALL:
            least, rows = rows_of(kind, empty)
            for cells in list(range(0, 14)) + [30, GREAT]:
                told = told_by(rows, cells)
                total = sum(many for _, many in told)
                for many in {1, 2, 3, total // 2 + 1, total - 1, total, total + 1, 5 * total} - {0}:
                    wanted, left = 0, many
                    for price, number in told:
                        wanted += price * min(number, left)
                        left -= min(number, left)
                    wanted = None if left > 0 or min(number for _, number in told) < 0 else wanted
                    self.assertTrue(same(steps_by_rows(kind, empty, cells, many), wanted))
                    if cells >= least:
                        self.assertEqual(wanted, fewest(kind, cells, empty, many))
                    seen["too many" if many > total else "held" if cells >= least else "below"] += 1
        self.assertGreater(min(seen.values()), 50)

    def test_edges(self):
        self.assertEqual(rows_of("over", 0), (0, [(1, 1, 0), (2, 0, 1)]))
        self.assertEqual(rows_of("into", 1), (0, [(1, 1, 0), (2, 0, 1)]))
        self.assertEqual(rows_of("whole", 0), (0, [(1, 1, 0), (2, 0, 1)]))
        self.assertEqual([rows_of(kind, empty)[0] for kind, empty in [("over", 7), ("into", 7), ("whole", 6)]],
                         [12, 12, 12])
        self.assertIsNone(watched(self, steps_by_rows, "into", 3, 0, 2))
        self.assertEqual(watched(self, steps_by_rows, "over", 2, 4, 20), 81)
        self.assertIsNone(steps_by_rows("over", 2, 4, 21))
        self.assertEqual(steps_by_rows("over", 5, 10 ** 28, 10 ** 29), 539999999999999999999999999923)
        for empty in range(1, 8):
            self.assertEqual(rows_of("into", empty), rows_of("whole", empty - 1))


class Costs(unittest.TestCase):
    def test_cost_line(self):
        for kind, empty in ALL:
            least, number, each = watched(self, cost_line, kind, empty)
            self.assertEqual(least, rows_of(kind, empty)[0])
            for cells in list(range(least, 40)) + [GREAT]:
                self.assertEqual(whole_cost(kind, cells, empty)[1], number + each * cells)

    def test_mean_price(self):
        for kind, empty in ALL:
            top, bottom = watched(self, mean_price, kind, empty)
            self.assertEqual(math.gcd(top, bottom), 1)
            many, steps = whole_cost(kind, GREAT, empty)
            # The steps for each card come as near as one likes.
            self.assertLess(abs(steps * bottom - top * many) * 10 ** 20, many)

    def test_how_many_at(self):
        for kind, empty in ALL:
            rows = rows_of(kind, empty)[1]
            for price in range(1, rows[-1][0] + 3):
                wanted = [row[1:] for row in rows if row[0] == price] + [(0, 0)]
                self.assertTrue(same(how_many_at(kind, empty, price), wanted[0]))
            self.assertEqual(watched(self, how_many_at, kind, empty, 1), (1, 0))
            self.assertEqual(how_many_at(kind, empty, GREAT), (0, 0))
            self.assertTrue(all(row[0] == 1 or row[0] % 2 == 0 for row in rows))
            cards = greatest(kind, (0, empty, []))
            self.assertEqual([sum(row[1] for row in rows), sum(row[2] for row in rows)], [cards, cards])


class Cells(unittest.TestCase):
    def test_cells_for(self):
        for kind, empty in ALL:
            for many in list(range(1, 70)) + [127, 128, 129, GREAT, GREAT - 1]:
                told = watched(self, cells_for, kind, empty, many)
                self.assertEqual(told, least_cells(kind, empty, [], many))
                self.assertGreaterEqual(greatest(kind, (told, empty, [])), many)
                self.assertTrue(told == 0 or greatest(kind, (told - 1, empty, [])) < many)

    def test_cells_within(self):
        for kind, empty in ALL:
            for many in (1, 2, 3, 5, 9, 14):
                costs = [fewest(kind, cells, empty, many) for cells in range(many)]
                least = 2 * many - 1
                self.assertEqual(costs[-1], least)
                tried = {0, least - 1, least, least + 1, least + 2, least + 5, 3 * many, 4 * many, GREAT}
                for steps in tried | {cost + more for cost in costs if cost is not None for more in (-1, 0)}:
                    good = [cells for cells, cost in enumerate(costs) if cost is not None and cost <= steps]
                    wanted = good[0] if good else None
                    self.assertTrue(same(cells_within(kind, empty, many, steps), wanted))
                    self.assertIs(wanted is None, steps < least)
        watched(self, cells_within, "over", 2, 20, 80)

    def test_thirty_figures(self):
        chance = random.Random(191)
        for kind, empty in ALL:
            many = chance.randint(10 ** 28, GREAT)
            for steps in [2 * many - 2, 2 * many - 1, 2 * many, 3 * many, 5 * many, GREAT * 1000]:
                told = cells_within(kind, empty, many, steps)
                if steps < 2 * many - 1:
                    self.assertIsNone(told)
                    continue
                self.assertLessEqual(fewest(kind, told, empty, many), steps)
                less = fewest(kind, told - 1, empty, many)
                self.assertTrue(less is None or less > steps)


class Errors(unittest.TestCase):
    def test_errors(self):
        for kind in KINDS:
            first = (kind, InvalidKind, not_kinds()), (1, InvalidNumber, wrong_columns(kind))
            count, number = (3, InvalidNumber, not_counts()), (3, InvalidNumber, not_numbers())
            for function in [rows_of, cost_line, mean_price]:
                refuses(self, function, *first)
            refuses(self, rows_hold, *first, count)
            refuses(self, steps_by_rows, *first, count, number)
            refuses(self, cells_for, *first, number)
            refuses(self, cells_within, *first, number, count)
            refuses(self, how_many_at, *first, number)

    def test_up_to_the_limits(self):
        begin = time.perf_counter()
        for kind, empty in ALL:
            rows_of(kind, empty)
            cost_line(kind, empty)
            mean_price(kind, empty)
            self.assertIs(rows_hold(kind, empty, GREAT), True)
            steps_by_rows(kind, empty, GREAT, GREAT)
            cells_within(kind, empty, GREAT, 3 * GREAT)
        self.assertLess(time.perf_counter() - begin, 20)
