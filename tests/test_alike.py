"""[11] and [12]: positions that are alike."""

import itertools
import math
import random
import time
import unittest

from supermoves.alike import are_alike, carried, how_many_alike, least_alike, order_to
from supermoves.errors import InvalidMove, InvalidPosition, InvalidRules, Stuck
from supermoves.moves import behind, possible_moves
from tests.helpers import edge_positions, refused, refuses, same, some_position, some_positions, watched
from tests.test_cards import not_rules
from tests.test_moves import impossible_moves
from tests.test_positions import SMALL, TABLE, not_positions

OTHER = ([[], [(3, 1)], [(3, 0), (2, 1)]], [None, (2, 0)], [1, 1])


def all_orders(position):
    """All positions that are alike with one, each as often as some orders make it."""
    columns, cells, homes = position
    return [([list(column) for column in some], list(held), list(homes))
            for some in itertools.permutations(columns) for held in itertools.permutations(cells)]


def distinct(positions):
    found = []
    for position in positions:
        if position not in found:
            found.append(position)
    return found


def key_of(position):
    """By this key the least one is the one whose columns stand in order, the empty cells behind the others."""
    return (position[0], [(card is None, card or ()) for card in position[1]])


def small_positions():
    chosen = [row for row in edge_positions() if len(row[1][0]) <= 4 and len(row[1][1]) <= 3]
    return chosen + some_positions(40, 30, 4, 3)


def plain_order(things, others):
    """The first, in order, of all orders of the things in which they are the others."""
    numbers = itertools.permutations(range(len(things)))
    return list(min(order for order in numbers if [things[at] for at in order] == others))


class Alike(unittest.TestCase):
    def test_all_orders(self):
        for rules, position in small_positions():
            orders = distinct(all_orders(position))
            self.assertEqual(watched(self, how_many_alike, rules, position), len(orders))
            least = min(orders, key=key_of)
            self.assertTrue(same(watched(self, least_alike, rules, position), least))
            for other in orders[:12]:
                self.assertIs(watched(self, are_alike, rules, position, other), True)
                self.assertTrue(same(least_alike(rules, other), least))

    def test_any_two(self):
        chance = random.Random(31)
        seen = {True: 0, False: 0}
        for _ in range(60):
            rules = (chance.randint(1, 2), chance.randint(1, 2), "any")
            sizes = [(chance.randint(1, 3), chance.randint(0, 2)) for _ in range(2)]
            pair = [some_position(chance, rules, *chance.choice(sizes)) for _ in range(2)]
            if chance.random() < 0.4:
                pair[1] = chance.choice(all_orders(pair[0]))
            wanted = pair[1] in all_orders(pair[0])
            seen[wanted] += 1
            self.assertIs(watched(self, are_alike, rules, *pair), wanted)
            self.assertIs(least_alike(rules, pair[0]) == least_alike(rules, pair[1]), wanted)
            self.assertIs(watched(self, order_to, rules, *pair) is not None, wanted)
        self.assertGreater(min(seen.values()), 10)

    def test_what_is_not_alike(self):
        one = ([[(2, 0)], [], []], [None], [1])
        for other in [([[(2, 0)], []], [None], [1]), ([[(2, 0)], [], []], [None, None], [1]),
                      ([[(2, 0)], [], []], [], [1]), ([[], [], []], [(2, 0)], [1]), ([[], [], []], [None], [2]),
                      ([[(2, 0), (1, 0)], [], []], [None], [0])]:
            self.assertIs(are_alike((2, 1, "any"), one, other), False)
            self.assertIsNone(order_to((2, 1, "any"), one, other))
        self.assertIs(are_alike((2, 1, "any"), ([[(2, 0), (1, 0)]], [], [0]), ([[(1, 0), (2, 0)]], [], [0])), False)

    def test_great_numbers(self):
        rules = (20, 8, "any")
        cards = [(rank, suit) for rank in range(1, 21) for suit in range(8)]
        begin = time.perf_counter()
        position = ([cards[at + 3:153:10] for at in range(10)], cards[:3] + cards[153:], [0] * 8)
        position[1].sort()
        self.assertEqual(watched(self, how_many_alike, rules, position), math.factorial(10) * math.factorial(10))
        other = (position[0][::-1], position[1][::-1], position[2])
        self.assertEqual(watched(self, order_to, rules, position, other), ([*range(9, -1, -1)], [*range(9, -1, -1)]))
        empty = ([[] for _ in range(10)], [None] * 7, [20] * 8)
        self.assertEqual(how_many_alike(rules, empty), 1)
        self.assertEqual(order_to(rules, empty, empty), ([*range(10)], [*range(7)]))
        self.assertLess(time.perf_counter() - begin, 5)

    def test_errors(self):
        rules, position = (SMALL, InvalidRules, not_rules()), (TABLE, InvalidPosition, not_positions())
        other = (OTHER, InvalidPosition, not_positions())
        refuses(self, are_alike, rules, position, other)
        refuses(self, least_alike, rules, position)
        refuses(self, how_many_alike, rules, position)
        refuses(self, order_to, rules, position, other)


class CarriedOver(unittest.TestCase):
    def test_orders(self):
        for rules, position in small_positions():
            for other in distinct(all_orders(position))[:15]:
                told = watched(self, order_to, rules, position, other)
                self.assertTrue(same(told, (plain_order(position[0], other[0]), plain_order(position[1], other[1]))))

    def test_carried(self):
        seen = 0
        for rules, position in small_positions():
            for other in distinct(all_orders(position))[::5][:6]:
                columns, cells = order_to(rules, position, other)
                for move in possible_moves(rules, position):
                    there = watched(self, carried, rules, position, other, move)
                    for place, here in zip(there, move):
                        self.assertEqual(place[0], here[0])
                        numbers = {"column": columns, "cell": cells, "home": list(range(8))}[place[0]]
                        self.assertEqual(numbers[place[1]], here[1])
                    self.assertIn(there, possible_moves(rules, other))
                    self.assertIs(are_alike(rules, behind(rules, position, move), behind(rules, other, there)), True)
                    seen += 1
        self.assertGreater(seen, 300)

    def test_errors(self):
        rules, position = (SMALL, InvalidRules, not_rules()), (TABLE, InvalidPosition, not_positions())
        other = (OTHER, InvalidPosition, not_positions())
        good, bad = (("column", 0), ("column", 2)), impossible_moves()
        refuses(self, carried, rules, position, other, (good, InvalidMove, bad))
        for unlike in [([[], [(3, 1)], [(3, 0)]], [None, (2, 0)], [1, 2]), (OTHER[0], [(2, 0)], [1, 1]),
                       (OTHER[0] + [[]], OTHER[1], [1, 1]), ([[(3, 1)], [], [(2, 1), (3, 0)]], OTHER[1], [1, 1])]:
            refused(self, Stuck, unlike, carried, SMALL, TABLE, unlike, good)
            for move in bad[:5] + bad[-5:]:
                refused(self, InvalidMove, move, carried, SMALL, TABLE, unlike, move)
