"""[20] to [23]: price lists beside each other, and beside that of the usual way."""

import itertools
import time
import unittest

from supermoves.capacity import greatest
from supermoves.doubling import cheaper_from, dearest, doubling, same_prices, saved, whole_cost
from supermoves.errors import InvalidKind, InvalidNumber
from supermoves.prices import fewest, prices
from tests.helpers import KINDS, not_counts, not_numbers, refuses, same, watched
from tests.test_capacity import GREAT, not_kinds
from tests.test_prices import few_rooms, plain_prices, refuses_beside, told_together


def plain_ways(many, chosen):
    """The binomial coefficient, counted."""
    return len(list(itertools.combinations(range(many), chosen)))


def plain_doubling(kind, cells, empty):
    """The list of all prices of the usual way, as [21] tells it, each one as often as it stands there."""
    columns = empty - (kind == "into")
    return [1] + [2 ** k for k in range(1, columns + 3)
                  for _ in range(cells * plain_ways(columns, k - 1) + plain_ways(columns, k))]


class TurnedAbout(unittest.TestCase):
    def test_whole_is_into_with_one_column_more(self):
        for cells, empty in itertools.product(range(5), range(6)):
            self.assertEqual(prices("whole", cells, empty), prices("into", cells, empty + 1))
            self.assertIs(same_prices("whole", cells, empty, "into", cells, empty + 1), True)

    def test_a_single_cell_is_a_column(self):
        for kind in KINDS:
            for empty in range(1 if kind == "into" else 0, 10):
                self.assertIs(same_prices(kind, 1, empty, kind, 0, empty + 1), True)
                for many in range(1, 40):
                    self.assertEqual(fewest(kind, 1, empty, many), fewest(kind, 0, empty + 1, many))

    def test_place_by_place(self):
        for cells, empty in itertools.product(range(4), range(1, 6)):
            whole, over, into = [plain_prices(kind, cells, empty) for kind in ("whole", "over", "into")]
            self.assertTrue(all(a <= b for a, b in zip(whole, over)))
            self.assertTrue(all(a <= b for a, b in zip(over, into)))
            for kind in KINDS:
                here = plain_prices(kind, cells, empty)
                for many in range(1, len(here) + 1):
                    self.assertEqual(fewest(kind, cells, empty, many), sum(here[:many]))
                    self.assertEqual(fewest(kind, cells, empty, many) % 2, 1)
                    by_cell = fewest(kind, cells + 1, empty, many)
                    self.assertLessEqual(by_cell, sum(here[:many]))
                    self.assertLessEqual(fewest(kind, cells, empty + 1, many), by_cell)

    def test_same_prices(self):
        rooms = few_rooms(2, 3) + [("into", 1, 4), ("into", 0, 5)]
        lists = [plain_prices(*room) for room in rooms]
        seen = 0
        for (one, told), (other, others) in itertools.product(zip(rooms, lists), repeat=2):
            self.assertIs(watched(self, same_prices, *one, *other), told == others)
            seen += told == others and one != other
        self.assertGreater(seen, 20)
        self.assertIs(same_prices("over", GREAT, 12, "over", GREAT, 12), True)
        self.assertIs(same_prices("whole", GREAT, 11, "into", GREAT, 12), True)
        self.assertIs(same_prices("over", GREAT, 12, "over", GREAT - 1, 12), False)

    def test_errors(self):
        kind, cells = ("over", InvalidKind, not_kinds()), (1, InvalidNumber, not_counts())
        empty = (2, InvalidNumber, not_counts())
        refuses(self, same_prices, kind, cells, empty, kind, cells, empty)
        into, empty = ("into", InvalidKind, not_kinds()), (2, InvalidNumber, not_numbers())
        refuses(self, same_prices, into, cells, empty, into, cells, empty)


class Doubling(unittest.TestCase):
    def test_lists(self):
        for kind, cells, empty in few_rooms(5, 6):
            wanted = told_together(plain_doubling(kind, cells, empty))
            self.assertTrue(same(watched(self, doubling, kind, cells, empty), wanted), f"{kind} {cells} {empty}")

    def test_edges(self):
        self.assertEqual(doubling("over", 0, 0), [(1, 1)])
        self.assertEqual(doubling("into", 0, 1), [(1, 1)])
        self.assertEqual(doubling("whole", 2, 0), [(1, 1), (2, 2)])
        self.assertEqual(doubling("over", 0, 2), [(1, 1), (2, 2), (4, 1)])
        self.assertEqual(doubling("over", GREAT, 1), [(1, 1), (2, GREAT + 1), (4, GREAT)])

    def test_as_many_prices_and_never_less(self):
        for kind, cells, empty in few_rooms(4, 6):
            usual, least = plain_doubling(kind, cells, empty), plain_prices(kind, cells, empty)
            self.assertEqual(len(usual), len(least))
            self.assertTrue(all(sum(usual[:many]) >= sum(least[:many]) for many in range(len(least) + 1)))

    def test_what_is_saved(self):
        for kind, cells, empty in few_rooms(3, 5):
            usual, least = plain_doubling(kind, cells, empty), plain_prices(kind, cells, empty)
            gains = [sum(usual[:many]) - sum(least[:many]) for many in range(len(least) + 1)]
            self.assertEqual(gains, sorted(gains))
            first = next((many for many, gain in enumerate(gains) if gain > 0), None)
            self.assertEqual(watched(self, cheaper_from, kind, cells, empty), first)
            for many in range(1, len(least) + 1):
                self.assertEqual(saved(kind, cells, empty, many), gains[many])
            self.assertIsNone(watched(self, saved, kind, cells, empty, len(least) + 1))
            self.assertEqual(watched(self, saved, kind, cells, empty, len(least)), gains[-1])

    def test_whole_cost_and_dearest(self):
        for kind, cells, empty in few_rooms(4, 6):
            least = plain_prices(kind, cells, empty)
            self.assertEqual(watched(self, whole_cost, kind, cells, empty), (len(least), sum(least)))
            self.assertEqual(watched(self, dearest, kind, cells, empty), least[-1])

    def test_dearest_grows_slowly(self):
        self.assertEqual([dearest("into", cells, 12) for cells in (100, 10 ** 6, GREAT)], [228] * 3)
        self.assertEqual([doubling("into", GREAT, 12)[-1], doubling("whole", 0, 12)[-1]], [(4096, GREAT), (4096, 1)])

    def test_great_numbers(self):
        begin = time.perf_counter()
        for kind in KINDS:
            for cells in (0, 1, GREAT):
                for empty in (1, 7, 12):
                    run, steps = watched(self, whole_cost, kind, cells, empty)
                    self.assertEqual(run, greatest(kind, (cells, empty, [])))
                    self.assertEqual(steps, fewest(kind, cells, empty, run))
                    usual = watched(self, doubling, kind, cells, empty)
                    self.assertEqual(sum(many for _, many in usual), run)
                    gain = sum(price * many for price, many in usual) - steps
                    self.assertEqual(watched(self, saved, kind, cells, empty, run), gain)
                    first = watched(self, cheaper_from, kind, cells, empty)
                    if first is None:
                        self.assertEqual(gain, 0)
                    else:
                        self.assertGreater(saved(kind, cells, empty, first), 0)
                        self.assertEqual(saved(kind, cells, empty, first - 1), 0)
        self.assertLess(time.perf_counter() - begin, 5)

    def test_errors(self):
        for function in [doubling, cheaper_from, whole_cost, dearest]:
            refuses_beside(self, function)
        refuses_beside(self, saved, (3, InvalidNumber, not_numbers()))
