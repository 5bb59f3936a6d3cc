"""[50] to [52]: cards that are sent home, and the price of it."""

import math
import random
import time
import unittest

from supermoves.errors import InvalidCard, InvalidPosition, InvalidRules, TooMany
from supermoves.homes import harmless, needs_no_place
from supermoves.positions import is_position
from supermoves.rooms import all_supermoves, fewest_moves
from supermoves.sent import harm_of, harm_table, how_many_orders, is_sendings, sendings, sent_home
from tests.helpers import (BUILDS, changes, edge_positions, junk, lists_in, refused, refuses, same, some_position,
                           some_positions, watched)
from tests.test_cards import not_cards, not_rules
from tests.test_homes import about, laid_out, plainly_no_place
from tests.test_moves import plain_behind
from tests.test_positions import SMALL, TABLE, not_positions
from tests.test_search import ONE_MORE, THOUSAND, few_sorts, plain_graph, plain_left, plain_sort

# Here cards that could go home, and need a place, do harm: by a move or two, or for good.
HARMED = [
    ((5, 4, "other"), ([[(2, 1), (3, 1)], [(4, 1), (4, 0)], [(5, 1), (5, 0)]], [], [3, 1, 5, 5])),
    ((5, 3, "other"), ([[(4, 0), (3, 1), (4, 1), (5, 0)], [(5, 1), (3, 0), (5, 2)]], [None], [2, 2, 4])),
    ((5, 3, "other"), ([[(5, 2), (2, 1), (4, 1)], [(5, 1), (5, 0)], [(3, 1), (4, 2)]], [], [4, 1, 3])),
    ((4, 4, "other"), ([[(1, 3), (3, 3), (3, 0)], [(4, 3), (4, 2)], [(4, 0), (2, 3)]], [], [2, 4, 3, 0])),
    ((4, 2, "any"), ([[(1, 0), (4, 0), (3, 0)], [(2, 0), (4, 1)]], [None], [0, 3])),
    ((5, 2, "other"), ([[(5, 0), (3, 0), (5, 1)], [(2, 0), (4, 0)]], [], [1, 4])),
    ((4, 2, "other"), ([[(1, 0), (3, 0)], [(2, 0), (4, 1)], [(4, 0)]], [], [0, 3])),
    ((5, 2, "other"), ([[(3, 1), (5, 0)], [(2, 1), (4, 1)], [(5, 1)]], [], [4, 1])),
]
LOST = ((5, 3, "other"), ([[(3, 1), (4, 1)], [(5, 1), (5, 0)]], [], [4, 2, 5]))


def plainly_harmless(rules, position):
    """Tuples of each harmless card, in order, and of the position behind sending it."""
    return [(card, plain_behind(position, (place, ("home", card[1])))) for card, place in about(position)
            if plainly_no_place(rules, position[2], card)]


def all_orders(rules, position):
    """Tuples of each order in which harmless cards go, and of what is behind it, the first one in order first."""
    told = plainly_harmless(rules, position)
    if not told:
        return [([], position)]
    return [([card] + order, end) for card, behind in told for order, end in all_orders(rules, behind)]


def near_home(seed, many, most_left=8):
    """Rules and positions of them with few cards that are not at home, the same ones each time."""
    chance = random.Random(seed)
    found = []
    for _ in range(many):
        rules = (chance.randint(1, 6), chance.randint(1, 5), chance.choice(BUILDS))
        homes = [rules[0]] * rules[1]
        left = []
        for _ in range(chance.randint(1, most_left)):
            suit = chance.randrange(rules[1])
            if homes[suit] > 0:
                left.append((homes[suit], suit))
                homes[suit] -= 1
        chance.shuffle(left)
        columns = chance.randint(1, 5)
        position = ([left[at::columns] for at in range(columns)], [None] * chance.randint(0, 2), homes)
        if position[1] and position[0][0]:
            position[1][-1] = position[0][0].pop()
        found.append((rules, position))
    return found


def can_go_home(position):
    """The cards that could go home, in order, and the positions behind."""
    return [(card, plain_behind(position, (place, ("home", card[1])))) for card, place in about(position)
            if position[2][card[1]] == card[0] - 1]


def near_harm(seed, many):
    """Rules and positions with a card that can go home and needs a place, the same ones each time."""
    chance = random.Random(seed)
    found = []
    while len(found) < many:
        suits = chance.randint(2, 4)
        rules = (chance.randint(3, 5), suits, chance.choice(["other", "any"]))
        homes = [rules[0] - chance.choice([0, 1, 1, 2, 3]) for _ in range(suits)]
        left = [(rank, suit) for suit in range(suits) for rank in range(homes[suit] + 1, rules[0] + 1)]
        chance.shuffle(left)
        columns = chance.randint(1, 3)
        position = ([left[at::columns] for at in range(columns)], [None] * chance.choice([0, 0, 1]), homes)
        at_stake = [card for card, _ in can_go_home(position) if not plainly_no_place(rules, homes, card)]
        if at_stake and len(left) < 9 and plain_graph(rules, position, 300) is not None:
            found.append((rules, position))
    return found


class SentHome(unittest.TestCase):
    def test_all_orders(self):
        most = 0
        for rules, position in near_home(150, 250, 7) + edge_positions() + [LOST]:
            if len(plainly_harmless(rules, position)) > 7:
                continue
            orders = all_orders(rules, position)
            self.assertTrue(all(end == orders[0][1] for _, end in orders))
            self.assertTrue(same(watched(self, sent_home, rules, position), orders[0][1]))
            self.assertTrue(is_position(rules, sent_home(rules, position)))
            self.assertTrue(same(watched(self, sendings, rules, position), orders[0][0]))
            self.assertTrue(same(watched(self, how_many_orders, rules, position), len(orders)))
            for order, _ in orders[:30]:
                self.assertEqual(sorted(order), sorted(orders[0][0]))
                self.assertIs(is_sendings(rules, position, order), True)
                self.assertIs(is_sendings(rules, position, order[:-1]), order == [])
                self.assertIs(is_sendings(rules, position, order[::-1]), order[::-1] in [told for told, _ in orders])
            most = max(most, len(orders))
        self.assertGreater(most, 200)

    def test_is_sendings(self):
        good = 0
        for rules, position in near_home(151, 12, 5) + [LOST, (SMALL, TABLE)]:
            orders = [order for order, _ in all_orders(rules, position)]
            for value in junk() + orders + [other for order in orders[:3] for other in changes(order)]:
                wanted = any(same(value, order) for order in orders)
                self.assertIs(watched(self, is_sendings, rules, position, value), wanted, f"{position} {value}")
                good += wanted
        self.assertGreater(good, 15)

    def test_edges(self):
        for build in BUILDS:
            won = ((3, 2, build), ([[], []], [None], [3, 3]))
            self.assertEqual([sent_home(*won), sendings(*won), how_many_orders(*won)], [won[1], [], 1])
            self.assertIs(is_sendings(*won, []), True)
            rules, position = (2, 2, build), ([[(2, 0), (1, 0)], [(2, 1), (1, 1)]], [], [0, 0])
            self.assertEqual(sent_home(rules, position), ([[], []], [], [2, 2]))
            self.assertEqual(how_many_orders(rules, position), 6)
            stuck = ([[(1, 0), (2, 0)], [(1, 1), (2, 1)]], [], [0, 0])
            self.assertEqual([sent_home(rules, stuck), sendings(rules, stuck), how_many_orders(rules, stuck)],
                             [stuck, [], 1])
        self.assertEqual([harmless(*LOST), sendings(*LOST), sent_home(*LOST)], [[], [], LOST[1]])

    def test_no_supermove_is_hurt(self):
        chance = random.Random(152)
        seen = {"less": 0, "none": 0, "all": 0}
        for _ in range(900):
            rules = (chance.randint(3, 6), chance.randint(1, 4), chance.choice(BUILDS))
            position = some_position(chance, rules, chance.randint(2, 5), chance.randint(0, 2), True)
            behind = sent_home(rules, position)
            gone = sendings(rules, position)
            for (start, goal, many), moves in all_supermoves(rules, position):
                left = [card for card in position[0][start][-many:] if card not in gone]
                seen["all" if not left else "less" if len(left) < many else "none"] += 1
                if left:
                    told = fewest_moves(rules, behind, (start, goal, len(left)))
                    self.assertLessEqual(told, moves - 2 * (many - len(left)))
        self.assertGreater(min(seen.values()), 20)

    def test_up_to_the_limits(self):
        begin = time.perf_counter()
        for build in BUILDS:
            rules, position = (3, 8, build), ([[(3, suit), (2, suit)] for suit in range(8)], [], [1] * 8)
            # The aces are at home, so each order will do in which each two is ahead of the three that lies beneath it.
            self.assertEqual(len(sendings(rules, position)), 16)
            self.assertEqual(how_many_orders(rules, position), math.factorial(16) // 2 ** 8)
            full = ((20, 8, build), ([[(rank, suit) for rank in range(20, 0, -1)] for suit in range(8)], [], [0] * 8))
            self.assertEqual(sent_home(*full), ([[]] * 8, [], [20] * 8))
            self.assertIs(is_sendings(*full, sendings(*full)), True)
        self.assertLess(time.perf_counter() - begin, 30)


class Harm(unittest.TestCase):
    def test_harm_of(self):
        seen = {"harmless": 0, "lost": 0, "spoiled": 0, "dearer": 0, "no harm": 0}
        for rules, position in few_sorts(153, 60, 200) + near_harm(154, 200) + HARMED + [LOST]:
            graph = plain_graph(rules, position, 1000)
            left = plain_left(rules, graph)
            here = left.get(plain_sort(position))
            for card, behind in can_go_home(position):
                then = left.get(plain_sort(behind))
                wanted = 0 if here is None else None if then is None else 1 + then - here
                self.assertTrue(same(watched(self, harm_of, rules, position, card), wanted))
                free = needs_no_place(rules, position, card)
                self.assertTrue(wanted == 0 or not free and (wanted is None or wanted > 0))
                if here is None:
                    seen["lost"] += 1
                else:
                    seen["harmless" if free else "spoiled" if then is None else "dearer" if wanted else "no harm"] += 1
        self.assertGreaterEqual(min(seen.values()), 5)

    def test_harm_table(self):
        rules, position, card = watched(self, harm_table)
        self.assertTrue(is_position(rules, position))
        self.assertLessEqual(sum(len(column) for column in position[0]) + len([one for one in position[1] if one]), 6)
        graph = plain_graph(rules, position, 1000)
        left = plain_left(rules, graph)
        behind = dict(can_go_home(position))[card]
        self.assertIn(plain_sort(position), left)
        self.assertNotIn(plain_sort(behind), left)
        self.assertIsNone(harm_of(rules, position, card))
        self.assertTrue(lists_in(harm_table()) and same(harm_table(), (rules, position, card)))

    def test_what_can_not_be_sent(self):
        for rules, position in few_sorts(155, 30, 200) + [LOST, (SMALL, TABLE)]:
            good = [card for card, _ in can_go_home(position)]
            for rank in range(1, rules[0] + 1):
                for suit in range(rules[1]):
                    if (rank, suit) not in good:
                        card = (rank, suit)
                        refused(self, InvalidCard, card, harm_of, rules, position, card)

    def test_too_many(self):
        for rules, position in ONE_MORE:
            for card, _ in about(position):
                if (card, 0) in [(one, 0) for one, _ in can_go_home(position)]:
                    with self.assertRaises(TooMany) as caught:
                        harm_of(rules, position, card)
                    self.assertTrue(same(caught.exception.value, 1001))
                else:
                    refused(self, InvalidCard, card, harm_of, rules, position, card)
        rules, position = ONE_MORE[1]
        self.assertIn((1, 0), harmless(rules, position))
        for rules, position in THOUSAND:
            for card, _ in can_go_home(position):
                harm_of(rules, position, card)


class Errors(unittest.TestCase):
    def test_errors(self):
        rules, position = (SMALL, InvalidRules, not_rules()), (TABLE, InvalidPosition, not_positions())
        for function in [sent_home, sendings, how_many_orders]:
            refuses(self, function, rules, position)
        refuses(self, is_sendings, rules, position, ([], None, []))
        refuses(self, harm_of, rules, position, ((2, 0), InvalidCard, not_cards() + [(3, 0), (3, 1), (1, 0), (2, False)]))

    def test_somewhat_beyond_the_limits(self):
        for rules, position in some_positions(20, 156) + [((4, 3, "same"), laid_out((4, 3, "same"), [0, 0, 0]))]:
            self.assertGreaterEqual(how_many_orders(rules, position), 1)
