"""[16] and [17]: which tops are wanted."""

import itertools
import random
import time
import unittest

from supermoves.bars import fewest_tops, greatest_with, how_many_lots, needed_tops, tops_to_add
from supermoves.errors import InvalidKind, InvalidNumber, InvalidRoom, Stuck
from tests.helpers import KINDS, not_counts, not_numbers, refused, refuses, same, watched
from tests.test_capacity import GREAT, not_kinds, not_rooms, plain_bound, plain_stretches, plainly_goes, small_rooms


def lots_of(tops):
    """All lots of some tops, the short ones first, those as long as each other in order."""
    return [list(lot) for many in range(len(tops) + 1) for lot in itertools.combinations(tops, many)]


def more_rooms():
    """Small rooms, and some with more tops and a small bound."""
    chance = random.Random(50)
    found = small_rooms()
    for _ in range(60):
        tops = sorted(chance.sample(range(1, 12), chance.randint(3, 8)))
        found.append((chance.choice([0, 0, 1, 2, 3]), chance.choice([0, 1, 1, 2]), tops))
    return found


class Wanted(unittest.TestCase):
    def test_wanted_tops(self):
        seen = 0
        for room in more_rooms():
            for kind, many in itertools.product(KINDS, [1, 2, 3, 5, 8, 11]):
                cells, empty, tops = room
                good = [lot for lot in lots_of(tops) if plainly_goes(kind, (cells, empty, lot), many)]
                self.assertEqual(watched(self, how_many_lots, kind, room, many), len(good))
                if not good:
                    refused(self, Stuck, many, needed_tops, kind, room, many)
                    refused(self, Stuck, many, fewest_tops, kind, room, many)
                    continue
                self.assertTrue(same(watched(self, fewest_tops, kind, room, many), good[0]))
                needed = [top for top in tops
                          if not plainly_goes(kind, (cells, empty, [one for one in tops if one != top]), many)]
                self.assertTrue(same(watched(self, needed_tops, kind, room, many), needed))
                seen += len(good[0]) > 1
        self.assertGreater(seen, 50)

    def test_idle_tops_double_the_lots(self):
        self.assertEqual(how_many_lots("over", (0, 0, [1, 2, 5, 9]), 3), 4)
        self.assertEqual(how_many_lots("over", (0, 0, [1, 2, 3]), 3), 2)
        self.assertEqual(how_many_lots("over", (9, 0, list(range(1, 21))), 1), 2 ** 20)
        self.assertEqual(how_many_lots("into", (9, 0, [1, 2]), 1), 0)
        self.assertEqual(needed_tops("over", (0, 0, [1, 2, 3]), 3), [1, 2])
        self.assertEqual(fewest_tops("over", (0, 0, [1, 2, 3]), 3), [1, 2])

    def test_stuck_into_nothing(self):
        for function in [needed_tops, fewest_tops, tops_to_add]:
            refused(self, Stuck, 1, function, "into", (3, 0, [1]), 1)

    def test_errors(self):
        kind, room = ("over", InvalidKind, not_kinds()), ((1, 1, [2]), InvalidRoom, not_rooms())
        for function in [needed_tops, fewest_tops, how_many_lots, tops_to_add]:
            refuses(self, function, kind, room, (4, InvalidNumber, not_numbers()))
        refuses(self, greatest_with, kind, room, (1, InvalidNumber, not_counts()))
        refused(self, InvalidNumber, 0, needed_tops, "into", (3, 0, [1]), 0)
        refused(self, InvalidNumber, True, tops_to_add, "into", (3, 0, [1]), True)


class Further(unittest.TestCase):
    def test_tops_to_add(self):
        for room in more_rooms()[::3]:
            cells, empty, tops = room
            for kind, many in itertools.product(KINDS, [1, 2, 4, 7, 9]):
                if plain_bound(kind, cells, empty) == 0:
                    refused(self, Stuck, many, tops_to_add, kind, room, many)
                    continue
                free = [top for top in range(1, many) if top not in tops]
                wanted = next(lot for lot in lots_of(free)
                              if plainly_goes(kind, (cells, empty, sorted(tops + lot)), many))
                told = watched(self, tops_to_add, kind, room, many)
                self.assertTrue(same(told, wanted), f"{kind} {room} {many} {told} {wanted}")
                most = plain_bound(kind, cells, empty)
                for low, high in plain_stretches(tops, many):
                    self.assertEqual(len([top for top in told if low < top < high]), (high - low - 1) // most)

    def test_greatest_with(self):
        for cells, empty, tops in [room for room in more_rooms()[::4] if plain_bound("over", room[0], room[1]) < 4]:
            for kind, further in itertools.product(KINDS, [0, 1, 2]):
                told = watched(self, greatest_with, kind, (cells, empty, tops), further)
                if plain_bound(kind, cells, empty) == 0:
                    self.assertEqual(told, 0)
                    continue
                self.assertTrue(self.helped(kind, (cells, empty, tops), further, told))
                for many in range(told + 1, told + 4):
                    self.assertFalse(self.helped(kind, (cells, empty, tops), further, many))

    def helped(self, kind, room, further, many):
        """Whether so many cards can go with any lot of so many further tops."""
        free = [top for top in range(1, many) if top not in room[2]]
        return any(plainly_goes(kind, (room[0], room[1], sorted(room[2] + list(lot))), many)
                   for lot in itertools.combinations(free, min(further, len(free))))

    def test_tops_far_off_do_not_help(self):
        self.assertEqual(greatest_with("over", (0, 0, [5]), 3), 4)
        self.assertEqual(greatest_with("over", (0, 0, [5]), 4), 6)
        self.assertEqual(greatest_with("over", (0, 0, [5, 6, 9]), 5), 8)
        self.assertEqual(greatest_with("into", (0, 0, [1]), 5), 0)

    def test_great_numbers(self):
        begin = time.perf_counter()
        tops = list(range(1, 21))
        self.assertEqual(how_many_lots("over", (1, 0, tops), 21), 17711)
        self.assertEqual(how_many_lots("over", (GREAT, 100, tops), GREAT), 2 ** 20)
        self.assertEqual(fewest_tops("over", (0, 1, tops), 21), list(range(1, 21, 2)))
        self.assertEqual(needed_tops("over", (0, 0, tops), 21), tops)
        each = (GREAT - 1) // 60
        self.assertEqual(len(watched(self, tops_to_add, "over", (each - 1, 0, []), each * 61)), 60)
        self.assertEqual(tops_to_add("whole", (each - 1, 0, [5]), each * 60), [each * at for at in range(1, 60)])
        far = [10 ** 29 * at for at in range(1, 9)]
        self.assertEqual(greatest_with("over", (10 ** 28 - 1, 0, far), 9 * 8), 8 * 10 ** 29 + 10 ** 28)
        self.assertEqual(greatest_with("over", (10 ** 28 - 1, 0, far), 9 * 8 - 1), 79 * 10 ** 28)
        self.assertEqual(greatest_with("over", (GREAT, 100, []), GREAT), 10 ** 60 * 2 ** 100)
        self.assertLess(time.perf_counter() - begin, 5)
