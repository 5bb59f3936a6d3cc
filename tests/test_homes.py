"""[47] to [49]: cards that may go home."""

import itertools
import random
import time
import unittest

from supermoves.errors import InvalidCard, InvalidPosition, InvalidRules
from supermoves.homes import harmless, is_why_not, needs_no_place, why_not
from supermoves.positions import is_position
from tests.helpers import (BUILDS, all_cards, changes, edge_positions, junk, plainly_lies_on, refuses, same,
                           some_positions, watched)
from tests.test_cards import not_cards, not_rules
from tests.test_moves import plain_behind
from tests.test_positions import SMALL, TABLE, not_positions
from tests.test_search import few_sorts, plain_least


def plainly_no_place(rules, homes, card):
    """As the first sentence of [47] tells it."""
    rank, suit = card
    if rank <= homes[suit]:
        return True
    if rank - 1 > homes[suit]:
        return False
    return all(plainly_no_place(rules, homes, other) for other in all_cards(rules)
               if plainly_lies_on(rules, other, card))


def told_by_build(rules, homes, card):
    """As the three rows of [47] tell it, of a card that is not at home, with all lower ones of its suit there."""
    rank, suit = card
    if rules[2] == "same":
        return True
    if rules[2] == "any":
        return min(homes) >= rank - 2
    unlike = [home for other, home in enumerate(homes) if (other - suit) % 2 == 1]
    others = [home for other, home in enumerate(homes) if other != suit]
    if not all(home >= rank - 2 for home in unlike):
        return False
    return all(home >= rank - 1 for home in unlike) or all(home >= rank - 3 for home in others)


def laid_out(rules, homes):
    """A position with such homes, all other cards being in one column."""
    return ([[card for card in all_cards(rules)[::-1] if card[0] > homes[card[1]]], []], [None], list(homes))


def about(position):
    """Tuples of each card that could be taken from a column or a cell, in order, and of its place."""
    columns, cells, _ = position
    return sorted([(column[-1], ("column", at)) for at, column in enumerate(columns) if column]
                  + [(card, ("cell", at)) for at, card in enumerate(cells) if card is not None])


def plain_reasons(rules, homes, card, most):
    """All lists of at most so many cards of which [49] tells, the short ones first, each length in order."""
    found, ways = [], [[card]] if card[0] > homes[card[1]] else []
    for _ in range(most):
        found += sorted(way for way in ways if homes[way[-1][1]] < way[-1][0] - 1)
        ways = [way + [other] for way in ways for other in all_cards(rules)
                if plainly_lies_on(rules, other, way[-1]) and other[0] > homes[other[1]]]
    return found


def some_homes(seed, many):
    """Rules and homes of them, near each other and not, the same ones each time."""
    chance = random.Random(seed)
    found = []
    for number in range(many):
        rules = (chance.randint(1, 9), chance.randint(1, 8), BUILDS[number % 3])
        low = chance.randint(0, rules[0])
        near = chance.choice([1, 2, 3, rules[0]])
        found.append((rules, [min(rules[0], low + chance.randint(0, near)) for _ in range(rules[1])]))
    return found


class NeedsNoPlace(unittest.TestCase):
    def test_all_homes_of_small_rules(self):
        seen = {}
        for ranks, suits, build in itertools.product((1, 4), (1, 2, 3, 4), BUILDS):
            rules = (ranks, suits, build)
            for homes in itertools.product(range(ranks + 1), repeat=suits):
                position = laid_out(rules, homes)
                for card in all_cards(rules):
                    wanted = plainly_no_place(rules, homes, card)
                    self.assertIs(needs_no_place(rules, position, card), wanted, f"{rules} {homes} {card}")
                    if homes[card[1]] + 1 == card[0]:
                        self.assertIs(wanted, told_by_build(rules, homes, card))
                        seen[build, wanted] = seen.get((build, wanted), 0) + 1
        self.assertEqual(len(seen), 5)

    def test_more_suits(self):
        for rules, homes in some_homes(130, 400):
            position = laid_out(rules, homes)
            for suit, home in enumerate(homes):
                if home < rules[0]:
                    wanted = plainly_no_place(rules, homes, (home + 1, suit))
                    self.assertIs(needs_no_place(rules, position, (home + 1, suit)), wanted, f"{rules} {homes} {suit}")
                    self.assertIs(told_by_build(rules, homes, (home + 1, suit)), wanted)

    def test_edges(self):
        for build in BUILDS:
            rules = (3, 4, build)
            none, all_home = laid_out(rules, [0] * 4), laid_out(rules, [3] * 4)
            self.assertIs(watched(self, needs_no_place, rules, none, (1, 2)), True)
            self.assertIs(needs_no_place(rules, none, (2, 2)), False)
            self.assertIs(needs_no_place(rules, laid_out(rules, [0, 0, 1, 0]), (2, 2)), True)
            self.assertTrue(all(needs_no_place(rules, all_home, card) for card in all_cards(rules)))
            self.assertEqual(harmless(rules, all_home), [])
        self.assertIs(needs_no_place((3, 4, "other"), laid_out((3, 4, "other"), [0, 0, 2, 0]), (3, 2)), False)
        self.assertIs(needs_no_place((3, 4, "other"), laid_out((3, 4, "other"), [0, 1, 2, 1]), (3, 2)), True)
        self.assertIs(needs_no_place((4, 4, "other"), laid_out((4, 4, "other"), [0, 2, 3, 2]), (4, 2)), False)
        self.assertIs(needs_no_place((4, 4, "other"), laid_out((4, 4, "other"), [0, 3, 3, 3]), (4, 2)), True)
        self.assertIs(needs_no_place((3, 1, "same"), laid_out((3, 1, "same"), [2]), (3, 0)), True)


class Harmless(unittest.TestCase):
    def test_harmless(self):
        many = 0
        for rules, position in edge_positions() + some_positions(150, 131):
            wanted = [card for card, _ in about(position)
                      if plainly_no_place(rules, position[2], card) and card[0] > position[2][card[1]]]
            self.assertTrue(same(watched(self, harmless, rules, position), wanted))
            many += len(wanted)
        self.assertGreater(many, 100)

    def test_the_theorem(self):
        seen = {None: 0, True: 0}
        for rules, position in few_sorts(132, 250, 200):
            moves = plain_least(rules, position)
            for card, place in about(position):
                if card in harmless(rules, position):
                    behind = plain_behind(position, (place, ("home", card[1])))
                    self.assertTrue(is_position(rules, behind))
                    self.assertEqual(plain_least(rules, behind), None if moves is None else moves - 1)
                    seen[None if moves is None else True] += 1
        self.assertGreater(min(seen.values()), 20)

    def test_up_to_the_limits(self):
        begin = time.perf_counter()
        for build in BUILDS:
            rules = (20, 8, build)
            for homes in [[0] * 8, [17, 18, 17, 18, 17, 18, 16, 19], [12, 11, 12, 11, 10, 9, 10, 9], [19] * 8,
                          [18, 17, 16, 15, 14, 13, 12, 11]]:
                position = laid_out(rules, homes)
                for card in all_cards(rules):
                    self.assertIs(needs_no_place(rules, position, card), why_not(rules, position, card) is None)
                    self.assertIs(needs_no_place(rules, position, card), plainly_no_place(rules, homes, card))
        self.assertLess(time.perf_counter() - begin, 20)


class WhyNot(unittest.TestCase):
    def test_all_lists(self):
        longest = 0
        chance = random.Random(134)
        # The only homes with lists of three: of cards of the other colour, some have just one place left below.
        three = [((6, 4, "other"), [chance.choice([0, 1, 2, 3]), 4, 5, chance.choice([4, 5, 6])]) for _ in range(20)]
        three += [((6, 4, "other"), [4, 5, chance.choice([4, 5]), chance.randint(0, 3)]) for _ in range(20)]
        for rules, homes in some_homes(133, 250) + three:
            position = laid_out(rules, homes)
            cards = all_cards(rules)[::1 + rules[0] * rules[1] // 5]
            for card in cards + [(home + 1, suit) for suit, home in enumerate(homes) if home < rules[0]]:
                if rules[1] > 4 and rules[2] != "same" and card[0] - min(homes) > 5:
                    continue
                reasons = plain_reasons(rules, homes, card, rules[0] + 1)
                wanted = reasons[0] if reasons else None
                told = why_not(rules, position, card)
                self.assertTrue(same(told, wanted), f"{rules} {homes} {card}: {told}, not {wanted}")
                self.assertIs(told is None, plainly_no_place(rules, homes, card))
                for reason in reasons[:40]:
                    self.assertIs(is_why_not(rules, position, card, reason), True)
                longest = max([longest] + [len(told or [])])
        self.assertGreaterEqual(longest, 3)

    def test_is_why_not(self):
        rules, many = (4, 4, "other"), 0
        for homes in [[3, 2, 0, 2], [3, 1, 3, 0], [0, 0, 0, 0], [2, 2, 2, 2], [4, 3, 3, 1]]:
            position = laid_out(rules, homes)
            for card in all_cards(rules):
                good = plain_reasons(rules, homes, card, 5)
                values = junk() + good + [other for reason in good[:3] for other in changes(reason)] + [[card]]
                for value in values:
                    wanted = any(same(value, reason) for reason in good)
                    many += wanted
                    self.assertIs(is_why_not(rules, position, card, value), wanted, f"{homes} {card} {value}")
        self.assertGreater(many, 100)
        rules, lost = (5, 3, "other"), ([[(3, 1), (4, 1)], [(5, 1), (5, 0)]], [], [4, 2, 5])
        self.assertTrue(same(watched(self, why_not, rules, lost, (5, 0)), [(5, 0), (4, 1)]))
        for value, wanted in [([(5, 0), (4, 1)], True), ([(5, 0)], False), ([(4, 1)], False), ([], False),
                              ([(5, 0), [4, 1]], False), (((5, 0), (4, 1)), False), ([(5, 0), (4, True)], False),
                              ([(5, 0), (4, 1), (3, 0)], False), ([(5, 0), (4, 1), (5, 0)], False)]:
            self.assertIs(watched(self, is_why_not, rules, lost, (5, 0), value), wanted)

    def test_a_card_at_home_in_between(self):
        rules, position = (4, 2, "other"), laid_out((4, 2, "other"), [0, 3])
        self.assertEqual(why_not(rules, position, (4, 0)), [(4, 0)])
        self.assertIs(is_why_not(rules, position, (4, 0), [(4, 0), (3, 1), (2, 0)]), False)
        self.assertIs(is_why_not(rules, position, (3, 1), [(3, 1), (2, 0)]), False)
        self.assertIs(is_why_not(rules, position, (2, 0), [(2, 0)]), True)
        self.assertIs(is_why_not(rules, laid_out(rules, [0, 1]), (4, 0), [(4, 0), (3, 1), (2, 0)]), True)

    def test_a_longer_list_beside_a_short_one(self):
        rules, position = (4, 2, "other"), laid_out((4, 2, "other"), [0, 0])
        self.assertEqual(why_not(rules, position, (4, 0)), [(4, 0)])
        self.assertIs(is_why_not(rules, position, (4, 0), [(4, 0), (3, 1)]), True)
        self.assertIs(is_why_not(rules, position, (4, 0), [(4, 0), (3, 1), (2, 0)]), True)
        self.assertIs(is_why_not(rules, position, (4, 0), [(4, 0), (3, 1), (2, 0), (1, 1)]), False)


class Errors(unittest.TestCase):
    def test_errors(self):
        rules, position = (SMALL, InvalidRules, not_rules()), (TABLE, InvalidPosition, not_positions())
        card = ((2, 1), InvalidCard, not_cards())
        refuses(self, harmless, rules, position)
        refuses(self, needs_no_place, rules, position, card)
        refuses(self, why_not, rules, position, card)
        refuses(self, is_why_not, rules, position, card, ([(2, 1)], None, []))
