"""[42] to [44]: what one more is worth, and what is spoiled by one less."""

import itertools
import time
import unittest

from supermoves.errors import InvalidKind, InvalidNumber, InvalidPlace, InvalidRoom, Stuck
from supermoves.tops import fewest_with
from supermoves.worth import idle, last_card, losses, needed, saves, with_more
from tests.helpers import KINDS, junk, not_numbers, refused, refuses, same, searched_fewest, watched
from tests.test_capacity import GREAT, not_kinds, not_rooms, plainly_goes
from tests.test_tops import any_runs, great_runs, small_runs


def not_more():
    return junk()[:3] + [value for value in junk()[3:] if value not in (1, 10 ** 29, "column")] + [
        "Cell", "cells", "cell ", "top", ("cell",), ["column"], -1, 0, -10 ** 29, True]


def plain_more(room, more):
    """As [42] tells it."""
    cells, empty, tops = room
    return (cells + (more == "cell"), empty + (more == "column"),
            sorted(set(tops) | {more} - {"cell", "column"}))


def plain_less(room, many):
    """Tuples of each thing of a room that [44] names, and of the room without it."""
    cells, empty, tops = room
    found = []
    if cells:
        found.append(("cell", (cells - 1, empty, tops)))
    if empty:
        found.append(("column", (cells, empty - 1, tops)))
    for top in sorted(tops):
        if top < many:
            found.append((top, (cells, empty, [other for other in tops if other != top])))
    return found


class OneMore(unittest.TestCase):
    def test_with_more(self):
        for room in [(0, 0, []), (1, 0, [2]), (3, 2, [1, 2, 7]), (GREAT, GREAT, [GREAT])]:
            for more in ["cell", "column", 1, 2, 3, 7, 8, GREAT]:
                self.assertTrue(same(watched(self, with_more, room, more), plain_more(room, more)))

    def test_a_top_that_is_there(self):
        room = (1, 0, [2, 4])
        self.assertTrue(same(with_more(room, 4), room))
        self.assertIsNot(with_more(room, 4)[2], room[2])
        self.assertEqual(saves("over", room, 4, 2), (fewest_with("over", room, 4),) * 2)

    def test_saves(self):
        for kind, room, many in small_runs(4, 2, 2) + any_runs(110, 60, 6, 2, 2):
            for more in ["cell", "column"] + list(range(1, many + 2)):
                wanted = (searched_fewest(kind, room, many), searched_fewest(kind, plain_more(room, more), many))
                self.assertEqual(saves(kind, room, many, more), wanted, f"{kind} {room} {many} {more}")
        watched(self, saves, "over", (1, 1, [2]), 5, "cell")

    def test_what_is_never_so(self):
        for kind, room, many in any_runs(111, 150, 16):
            ahead, cell = saves(kind, room, many, "cell")
            column = saves(kind, room, many, "column")[1]
            top = saves(kind, room, many, 1 + many // 2)[1]
            if ahead is not None:
                self.assertTrue(max(cell, column, top) <= ahead)
            if cell is not None:
                self.assertLessEqual(column, cell)

    def test_one_cell_is_worth_a_column_where_there_is_no_cell(self):
        for kind, (_, empty, tops), many in any_runs(112, 150, 14):
            if kind != "into" or empty > 0:
                self.assertEqual(saves(kind, (0, empty, tops), many, "cell"),
                                 saves(kind, (0, empty, tops), many, "column"))
        self.assertEqual(saves("into", (0, 0, []), 1, "cell"), (None, None))
        self.assertEqual(saves("into", (0, 0, []), 1, "column"), (None, 1))

    def test_a_further_column_may_save_more(self):
        self.assertEqual(saves("over", (2, 4, []), 36, "column"), (189, 159))
        self.assertEqual(saves("over", (2, 5, []), 36, "column"), (159, 125))


class LastCard(unittest.TestCase):
    def test_last_card(self):
        fell = 0
        for kind, room, many in small_runs(5, 2, 2) + any_runs(113, 60, 6, 2, 2):
            here = searched_fewest(kind, room, many)
            told = watched(self, last_card, kind, room, many) if many < 4 else last_card(kind, room, many)
            if here is None:
                self.assertIsNone(told)
                continue
            self.assertEqual(told, here - searched_fewest(kind, room, many - 1) if many > 1 else 1)
            if many > 1 and told < last_card(kind, room, many - 1):
                self.assertNotEqual(room[2], [])
                fell += 1
        self.assertGreater(fell, 10)

    def test_edges(self):
        for kind in KINDS:
            self.assertEqual(last_card(kind, (0, 1, []), 1), 1)
        self.assertIsNone(last_card("into", (3, 0, [1]), 1))
        self.assertIsNone(last_card("over", (1, 1, []), 5))
        self.assertEqual(last_card("over", (0, 0, [1]), 2), 2)

    def test_without_tops_it_never_falls(self):
        for kind, cells, empty in itertools.product(KINDS, range(4), range(1, 4)):
            told = [last_card(kind, (cells, empty, []), many) for many in range(1, 25)]
            told = [steps for steps in told if steps is not None]
            self.assertEqual(told, sorted(told))


class Spoiled(unittest.TestCase):
    def test_losses(self):
        seen = {"idle": 0, "needed": 0, "neither": 0, "stuck": 0}
        for kind, room, many in small_runs(4, 2, 2) + any_runs(114, 80, 6, 2, 2):
            here = searched_fewest(kind, room, many)
            if here is None:
                for function in [losses, idle, needed]:
                    refused(self, Stuck, many, function, kind, room, many)
                seen["stuck"] += 1
                continue
            told = [(thing, searched_fewest(kind, less, many)) for thing, less in plain_less(room, many)]
            self.assertTrue(same(watched(self, losses, kind, room, many), told), f"{kind} {room} {many}")
            self.assertTrue(same(watched(self, idle, kind, room, many),
                                 [thing for thing, steps in told if steps == here]))
            self.assertTrue(same(watched(self, needed, kind, room, many),
                                 [thing for thing, steps in told if steps is None]))
            for _, steps in told:
                seen["idle" if steps == here else "needed" if steps is None else "neither"] += 1
        self.assertGreater(min(seen.values()), 50)

    def test_edges(self):
        self.assertEqual(losses("over", (0, 0, []), 1), [])
        self.assertEqual(losses("over", (0, 0, [1, 5]), 1), [])
        self.assertEqual(losses("into", (0, 1, []), 1), [("column", None)])
        self.assertEqual(needed("into", (2, 1, [1]), 2), ["column"])
        self.assertEqual(idle("into", (2, 1, [1]), 2), ["cell", 1])
        self.assertEqual(losses("over", (GREAT, 100, [1, 2]), 2), [("cell", 3), ("column", 3), (1, 3)])

    def test_more_cards(self):
        for kind, room, many in any_runs(115, 40, 20):
            if plainly_goes(kind, room, many):
                wanted = [(thing, fewest_with(kind, less, many)) for thing, less in plain_less(room, many)]
                self.assertTrue(same(losses(kind, room, many), wanted))

    def test_up_to_the_limits(self):
        begin = time.perf_counter()
        for kind, room, many in great_runs()[::17]:
            if plainly_goes(kind, room, many):
                told = losses(kind, room, many)
                self.assertEqual(needed(kind, room, many), [thing for thing, steps in told if steps is None])
            self.assertEqual(saves(kind, room, many, "cell")[0], fewest_with(kind, room, many))
            last_card(kind, room, many)
        self.assertLess(time.perf_counter() - begin, 30)


class Errors(unittest.TestCase):
    def test_errors(self):
        kind, room = ("over", InvalidKind, not_kinds()), ((1, 1, [2]), InvalidRoom, not_rooms())
        many, more = (3, InvalidNumber, not_numbers()), ("column", InvalidPlace, not_more())
        refuses(self, with_more, room, more)
        refuses(self, saves, kind, room, many, more)
        for function in [last_card, losses, idle, needed]:
            refuses(self, function, kind, room, many)
            refused(self, Stuck, 5, function, "over", (1, 1, []), 5) if function is not last_card else None

    def test_a_run_that_can_not_go_is_no_error_for_saves(self):
        self.assertEqual(saves("over", (0, 0, []), 3, 1), (None, None))
        refused(self, InvalidPlace, "cells", saves, "over", (0, 0, []), 3, "cells")
