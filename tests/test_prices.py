"""[18] and [19]: prices."""

import time
import unittest

from supermoves.capacity import greatest
from supermoves.errors import InvalidKind, InvalidNumber
from supermoves.prices import fewest, longest_within, price_of, prices
from tests.helpers import KINDS, not_counts, not_numbers, refused, refuses, same, searched_fewest, watched
from tests.test_capacity import GREAT, not_kinds


def plain_lists(cells, last):
    """The lists A(1) to A(last), merged price by price, as [18] tells it."""
    lists = [[1] + [2] * cells]
    while len(lists) < last:
        waiting = [[1] + [2] * cells]
        waiting += [[a + b for a, b in zip(lists[at], lists[at - 1])] for at in range(1, len(lists))]
        waiting = sorted(price for prices_there in waiting for price in prices_there)
        made, added, ahead = [], 0, lists[-1]
        while waiting or added < len(ahead):
            heads = waiting[:1]
            if added < min(len(ahead), len(made)):
                heads = heads + [made[added] + ahead[added]]
            made.append(min(heads))
            if waiting and waiting[0] == made[-1]:
                waiting.pop(0)
            else:
                added += 1
        lists.append(made)
    return lists[:last]


def plain_prices(kind, cells, empty):
    """The list of all prices, each one as often as it stands there."""
    if kind == "into":
        return plain_lists(cells, empty)[-1]
    if kind == "whole":
        return plain_lists(cells, empty + 1)[-1]
    doubled = [2 * price for one in plain_lists(cells, empty) for price in one] if empty else []
    return sorted([1] + [2] * cells + doubled)


def told_together(one_by_one):
    return [(price, one_by_one.count(price)) for price in sorted(set(one_by_one))]


def few_rooms(most_cells, most_empty):
    """Kinds, cells and empty columns, for each kind from its fewest empty columns on."""
    return [(kind, cells, empty) for kind in KINDS for cells in range(most_cells + 1)
            for empty in range(1 if kind == "into" else 0, most_empty + 1)]


def refuses_beside(test, function, *parameters):
    """Check each error of a function whose first parameters are a kind, cells and empty columns."""
    cells = (1, InvalidNumber, not_counts())
    for kind, bad in [("over", not_counts()), ("whole", not_counts()), ("into", not_numbers())]:
        refuses(test, function, (kind, InvalidKind, not_kinds()), cells, (2, InvalidNumber, bad), *parameters)
    good = [parameter[0] for parameter in parameters]
    refused(test, InvalidNumber, 0, function, "into", 10 ** 29, 0, *good)


class Prices(unittest.TestCase):
    def test_lists_merged_price_by_price(self):
        for kind, cells, empty in few_rooms(5, 6):
            wanted = told_together(plain_prices(kind, cells, empty))
            self.assertTrue(same(watched(self, prices, kind, cells, empty), wanted), f"{kind} {cells} {empty}")

    def test_edges(self):
        self.assertEqual(prices("over", 0, 0), [(1, 1)])
        self.assertEqual(prices("whole", 0, 0), [(1, 1)])
        self.assertEqual(prices("into", 0, 1), [(1, 1)])
        self.assertEqual(prices("into", 3, 1), [(1, 1), (2, 3)])
        self.assertEqual(prices("over", 0, 1), [(1, 1), (2, 1)])
        self.assertEqual(prices("over", 3, 0), [(1, 1), (2, 3)])
        self.assertEqual(prices("into", 0, 3), [(1, 1), (2, 2), (4, 1)])

    def test_as_many_as_the_greatest_run(self):
        for kind, cells, empty in few_rooms(3, 12) + [(kind, GREAT, empty) for kind in KINDS for empty in (1, 12)]:
            rows = prices(kind, cells, empty)
            self.assertEqual(sum(many for _, many in rows), greatest(kind, (cells, empty, [])))
            self.assertEqual([price for price, _ in rows], sorted({price for price, _ in rows}))
            self.assertTrue(all(many > 0 for _, many in rows))

    def test_lists_stay_short(self):
        begin = time.perf_counter()
        for kind in KINDS:
            for cells in (0, 1, GREAT):
                self.assertLess(len(watched(self, prices, kind, cells, 12)), 250)
        self.assertLess(time.perf_counter() - begin, 5)

    def test_errors(self):
        refuses_beside(self, prices)


class Fewest(unittest.TestCase):
    def test_sums_of_least_prices(self):
        for kind, cells, empty in few_rooms(3, 4):
            one_by_one = plain_prices(kind, cells, empty)
            for many in range(1, len(one_by_one) + 1):
                self.assertEqual(watched(self, fewest, kind, cells, empty, many), sum(one_by_one[:many]))
                self.assertEqual(watched(self, price_of, kind, cells, empty, many), one_by_one[many - 1])
            for many in (len(one_by_one) + 1, GREAT):
                self.assertIsNone(watched(self, fewest, kind, cells, empty, many))
                self.assertIsNone(watched(self, price_of, kind, cells, empty, many))

    def test_a_search_through_standings(self):
        for kind, cells, empty in few_rooms(3, 3):
            for many in range(1, 9 if cells + empty < 3 else 7):
                wanted = searched_fewest(kind, (cells, empty, []), many)
                self.assertEqual(fewest(kind, cells, empty, many), wanted, f"{kind} {cells} {empty} {many}")

    def test_longest_within(self):
        for kind, cells, empty in few_rooms(2, 4):
            one_by_one = plain_prices(kind, cells, empty)
            for steps in range(sum(one_by_one) + 5):
                wanted = max(many for many in range(len(one_by_one) + 1) if sum(one_by_one[:many]) <= steps)
                self.assertEqual(longest_within(kind, cells, empty, steps), wanted)
            self.assertEqual(watched(self, longest_within, kind, cells, empty, GREAT), len(one_by_one))
            self.assertEqual(watched(self, longest_within, kind, cells, empty, 0), 0)

    def test_it_never_grows_less_by_a_later_card(self):
        for kind, cells, empty in few_rooms(3, 6):
            told = [price_of(kind, cells, empty, number) for number in range(1, greatest(kind, (cells, empty, [])) + 1)]
            self.assertEqual(told, sorted(told))

    def test_great_numbers(self):
        begin = time.perf_counter()
        for kind in KINDS:
            for cells in (10 ** 29, GREAT):
                for empty in (1, 5, 12):
                    run = greatest(kind, (cells, empty, []))
                    whole = fewest(kind, cells, empty, run)
                    self.assertIsNone(fewest(kind, cells, empty, run + 1))
                    self.assertIsNone(price_of(kind, cells, empty, run + 1))
                    self.assertEqual(fewest(kind, cells, empty, run - 1), whole - price_of(kind, cells, empty, run))
                    self.assertEqual(longest_within(kind, cells, empty, whole), run)
                    self.assertEqual(longest_within(kind, cells, empty, whole - 1), run - 1)
                    self.assertEqual(fewest(kind, cells, empty, 10 ** 29), 2 * 10 ** 29 - 1)
                    self.assertEqual(longest_within(kind, cells, empty, 10 ** 29), 5 * 10 ** 28)
        self.assertLess(time.perf_counter() - begin, 5)

    def test_errors(self):
        refuses_beside(self, fewest, (3, InvalidNumber, not_numbers()))
        refuses_beside(self, price_of, (3, InvalidNumber, not_numbers()))
        refuses_beside(self, longest_within, (3, InvalidNumber, not_counts()))
