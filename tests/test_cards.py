"""[4] and [6]: rules and cards."""

import unittest

from supermoves.cards import deck, is_card, is_rules, lies_on, takers
from supermoves.errors import InvalidCard, InvalidRules
from tests.helpers import BUILDS, all_cards, changes, junk, plainly_lies_on, refuses, watched

EDGES = [(ranks, suits, build) for ranks in [1, 2, 5, 20] for suits in [1, 2, 3, 8] for build in BUILDS]


def plainly_number(value, low, high):
    return type(value) is int and low <= value <= high


def plainly_rules(value):
    if type(value) is not tuple or len(value) != 3:
        return False
    good = plainly_number(value[0], 1, 20) and plainly_number(value[1], 1, 8)
    return good and type(value[2]) is str and value[2] in BUILDS


def plainly_card(rules, value):
    if type(value) is not tuple or len(value) != 2:
        return False
    return plainly_number(value[0], 1, rules[0]) and plainly_number(value[1], 0, rules[1] - 1)


def not_rules():
    return junk() + [(0, 4, "any"), (21, 4, "any"), (13, 0, "any"), (13, 9, "any"), (13, 4, "Any"), (True, 1, "any"),
                     (1, True, "same"), [13, 4, "any"], (13, 4), (13, 4, "any", 1), (10 ** 29, 4, "any")]


def not_cards():
    """What is no card of the rules (3, 2, ..)."""
    return junk() + [(0, 0), (4, 0), (1, 2), (1, -1), (True, 0), (1, False), [1, 0], (1, 0, 0), ("1", 0)]


class Rules(unittest.TestCase):
    def test_edges_are_rules(self):
        for rules in EDGES + [(13, 4, "other"), (13, 4, "same")]:
            self.assertIs(watched(self, is_rules, rules), True)

    def test_what_is_no_rules(self):
        for value in not_rules():
            self.assertIs(watched(self, is_rules, value), False)

    def test_slight_changes(self):
        for rules in EDGES:
            for value in changes(rules):
                self.assertIs(is_rules(value), plainly_rules(value), value)


class Cards(unittest.TestCase):
    def test_decks(self):
        for rules in EDGES:
            self.assertEqual(watched(self, deck, rules), all_cards(rules))

    def test_cards_and_slight_changes(self):
        for rules in EDGES:
            for card in all_cards(rules):
                self.assertIs(is_card(rules, card), True)
            for card in [(1, 0), (rules[0], rules[1] - 1)]:
                for value in changes(card):
                    self.assertIs(is_card(rules, value), plainly_card(rules, value), value)

    def test_what_is_no_card(self):
        for value in not_cards():
            self.assertIs(watched(self, is_card, (3, 2, "other"), value), False)

    def test_lies_on(self):
        for rules in [edge for edge in EDGES if edge[0] < 20] + [(4, 8, build) for build in BUILDS]:
            for card in all_cards(rules):
                on = [other for other in all_cards(rules) if plainly_lies_on(rules, card, other)]
                self.assertEqual(takers(rules, card), on)
                for other in all_cards(rules):
                    self.assertIs(lies_on(rules, card, other), other in on)

    def test_ends_of_the_deck(self):
        self.assertEqual(watched(self, takers, (20, 8, "any"), (20, 3)), [])
        self.assertEqual(watched(self, takers, (20, 8, "any"), (19, 3)), [(20, suit) for suit in range(8)])
        self.assertEqual(watched(self, takers, (20, 8, "same"), (19, 3)), [(20, 3)])
        self.assertEqual(watched(self, takers, (20, 8, "other"), (1, 7)), [(2, 0), (2, 2), (2, 4), (2, 6)])
        self.assertEqual(watched(self, takers, (20, 1, "other"), (1, 0)), [])
        self.assertIs(watched(self, lies_on, (20, 8, "any"), (2, 3), (1, 3)), False)

    def test_errors(self):
        rules, card = ((3, 2, "other"), InvalidRules, not_rules()), ((2, 1), InvalidCard, not_cards())
        refuses(self, deck, rules)
        refuses(self, is_card, rules, ((2, 1), None, not_cards()))
        refuses(self, lies_on, rules, card, card)
        refuses(self, takers, rules, card)
