"""[7]: texts."""

import unittest

from supermoves.errors import InvalidCard, InvalidMove, InvalidPosition, InvalidRules, InvalidText
from supermoves.texts import (card_of_text, move_of_text, position_of_text, text_of_card, text_of_move,
                              text_of_position)
from tests.helpers import (all_cards, edge_positions, junk, places_in, refused, refuses, same, some_positions,
                           watched)
from tests.test_cards import not_cards, not_rules
from tests.test_positions import SMALL, TABLE, not_places, not_positions

RANKS = "A23456789TJQKLMNOPRU"
SUITS = "CDSHWXYZ"
TEXT = "1: 3C 2D\n2: 3D\n3:\ncells: 2C -\nhomes: 1 1\n"


def not_texts():
    return [value for value in junk() if value != ""] + [""]


def plain_text(position):
    columns, cells, homes = position
    rows = [f"{at + 1}:" + "".join(" " + RANKS[card[0] - 1] + SUITS[card[1]] for card in column)
            for at, column in enumerate(columns)]
    rows.append("cells:" + "".join(" -" if card is None else " " + RANKS[card[0] - 1] + SUITS[card[1]]
                                   for card in cells))
    rows.append("homes:" + "".join(" " + str(home) for home in homes))
    return "".join(row + "\n" for row in rows)


def slips(text, signs):
    """Texts with one sign too many, too few, exchanged or replaced, and in other letters."""
    found = [text.lower(), text.upper(), text.swapcase(), text * 2, " " + text, text + " ", text.strip(), ""]
    for at in range(len(text) + 1):
        found.append(text[:at] + text[at + 1:])
        found += [text[:at] + sign + text[at:] for sign in signs]
        found += [text[:at] + sign + text[at + 1:] for sign in signs]
        found += [text[:at] + text[at:at + 1] * 2 + text[at + 1:], text[:at] + text[at:at + 2][::-1] + text[at + 2:]]
        found.append(text[:at] + text[at:at + 1].swapcase() + text[at + 1:])
    return found


class TextsOfCards(unittest.TestCase):
    def test_all_cards(self):
        for rules in [(20, 8, "any"), (13, 4, "other"), (1, 1, "same")]:
            for card in all_cards(rules):
                text = RANKS[card[0] - 1] + SUITS[card[1]]
                self.assertEqual(watched(self, text_of_card, rules, card), text)
                self.assertEqual(watched(self, card_of_text, rules, text), card)

    def test_all_short_texts(self):
        signs = "".join(chr(code) for code in range(32, 127)) + "\t\n"
        for rules in [(20, 8, "any"), (13, 4, "other"), (2, 1, "same")]:
            good = {RANKS[card[0] - 1] + SUITS[card[1]]: card for card in all_cards(rules)}
            for text in [""] + list(signs) + [one + two for one in signs for two in signs]:
                if text in good:
                    self.assertEqual(card_of_text(rules, text), good[text])
                else:
                    refused(self, InvalidText, text, card_of_text, rules, text)
            for text in [one + sign for one in good for sign in signs] + [sign + one for one in good for sign in signs]:
                refused(self, InvalidText, text, card_of_text, rules, text)

    def test_errors(self):
        rules = (SMALL, InvalidRules, not_rules())
        refuses(self, text_of_card, rules, ((2, 1), InvalidCard, not_cards()))
        refuses(self, card_of_text, rules, ("2D", InvalidText, not_texts() + ["4C", "AS", "A", ["AC"], ("A", "C")]))


class TextsOfPositions(unittest.TestCase):
    def test_there_and_back(self):
        for rules, position in edge_positions() + some_positions(60, 11):
            text = watched(self, text_of_position, rules, position)
            self.assertEqual(text, plain_text(position))
            self.assertTrue(same(watched(self, position_of_text, rules, text), position))

    def test_slips(self):
        """Whatever is taken is just the text of what comes of it, and nothing else is taken."""
        chosen = [(SMALL, TABLE)] + edge_positions()[:6] + some_positions(6, 12, 3, 2)
        for rules, position in chosen:
            text, taken = plain_text(position), 0
            for slip in slips(text, "\n\t -:0123AKCDach"):
                try:
                    told = position_of_text(rules, slip)
                except InvalidText as caught:
                    self.assertIs(caught.value, slip)
                    self.assertNotEqual(slip, text)
                else:
                    taken += 1
                    self.assertEqual(plain_text(told), slip)
            self.assertLess(taken, 200)

    def test_ends_of_lines(self):
        for text in [TEXT[:-1], TEXT + "\n", "\n" + TEXT, TEXT.replace("3:\n", "3:\n\n"), TEXT.replace("\n", "\n\n"),
                     TEXT.replace("3D\n", "3D"), TEXT.replace("\n", "\t"), TEXT.replace("3:", "3: "),
                     TEXT.replace("3:\n", "")[:-1], TEXT.replace("cells", "Cells"), TEXT.replace("2C -", "2C  -"),
                     TEXT.replace("2C -", "2C --"), TEXT.replace("1 1", "01 1"), TEXT.replace("1 1", "+1 1"),
                     TEXT.replace("1 1", "1 1 1"), TEXT.replace("1 1", "1"), TEXT.replace("1:", "0:"),
                     TEXT.replace("1 1", "9" * 5000 + " 1"), TEXT.replace("3D", "-"), TEXT.replace("2: 3D", "2:3D"),
                     "cells: 3C 3D\nhomes: 2 2\n", "homes: 1 1\ncells: 2C -\n", TEXT.replace("1: 3C", "1: 3c"),
                     TEXT.replace("2C -", "2C None"), TEXT.replace("2D", "3C"), TEXT.replace("3C 2D", "3C 2D 2C")]:
            refused(self, InvalidText, text, position_of_text, SMALL, text)

    def test_of_other_rules(self):
        refused(self, InvalidText, TEXT, position_of_text, (4, 2, "other"), TEXT)
        refused(self, InvalidText, TEXT, position_of_text, (3, 3, "other"), TEXT)
        self.assertEqual(position_of_text((3, 2, "any"), TEXT), TABLE)

    def test_errors(self):
        rules = (SMALL, InvalidRules, not_rules())
        refuses(self, text_of_position, rules, (TABLE, InvalidPosition, not_positions()))
        refuses(self, position_of_text, rules, (TEXT, InvalidText, not_texts() + [[TEXT], TABLE, (TEXT,)]))


class TextsOfMoves(unittest.TestCase):
    def sign(self, place):
        return {"column": "1234567890", "cell": "abcdefg", "home": "hhhhhhhh"}[place[0]][place[1]]

    def chosen(self):
        fitting = [row for row in edge_positions() if len(row[1][0]) <= 10 and len(row[1][1]) <= 7]
        wide = ((3, 2, "any"), ([[(3, 0)], [(2, 0), (2, 1)]] + [[] for _ in range(8)],
                                [None, None, (3, 1)] + [None] * 4, [1, 1]))
        return fitting + [wide] + some_positions(25, 13)

    def test_texts_of_moves(self):
        for rules, position in self.chosen():
            for start in places_in(position):
                for goal in places_in(position):
                    if start != goal and start[0] != "home":
                        told = text_of_move(rules, position, (start, goal))
                        self.assertEqual(told, self.sign(start) + self.sign(goal))

    def test_moves_of_all_short_texts(self):
        signs = "1234567890abcdefghABH-x? i\n"
        for rules, position in self.chosen():
            columns, cells, homes = position
            tops = [column[-1] if column else None for column in columns]
            places = {sign: place for place in places_in(position)[::-1] for sign in self.sign(place)}
            for text in [one + two for one in signs for two in signs]:
                start, goal = places.get(text[0]), places.get(text[1])
                if start is not None and text[1] == "h":
                    card = None if text[0] == "h" else (cells if start[0] == "cell" else tops)[start[1]]
                    goal = None if card is None else ("home", card[1])
                if None in [start, goal] or text[0] == "h" or text[0] == text[1]:
                    refused(self, InvalidText, text, move_of_text, rules, position, text)
                else:
                    self.assertEqual(watched(self, move_of_text, rules, position, text), (start, goal))

    def test_home_of_the_card_that_could_be_taken(self):
        self.assertEqual(move_of_text(SMALL, TABLE, "1h"), (("column", 0), ("home", 1)))
        self.assertEqual(move_of_text(SMALL, TABLE, "2h"), (("column", 1), ("home", 1)))
        self.assertEqual(text_of_move(SMALL, TABLE, (("column", 0), ("home", 0))), "1h")
        for text in ["3h", "bh", "hh", "h1"]:
            refused(self, InvalidText, text, move_of_text, SMALL, TABLE, text)

    def test_errors(self):
        rules, position = (SMALL, InvalidRules, not_rules()), (TABLE, InvalidPosition, not_positions())
        bad = junk() + [(("home", 0), ("cell", 1)), (("cell", 0), ("cell", 0)), [("cell", 0), ("cell", 1)]]
        bad += [(("cell", 0), place) for place in not_places()]
        refuses(self, text_of_move, rules, position, ((("cell", 0), ("column", 1)), InvalidMove, bad))
        texts = not_texts() + ["1", "11", "123", "4a", "ac", "A2", "1H", " 1h", "1h ", "1h\n", "h1", "3h", "bh",
                               ["1h"], ("1", "h"), "0a", "1g", "1?"]
        refuses(self, move_of_text, rules, position, ("1h", InvalidText, texts))

    def test_beyond_the_limits_no_error_is_raised(self):
        rules, position = (1, 1, "any"), ([[(1, 0)]] + [[] for _ in range(10)], [None] * 8, [0])
        for goal in [("column", 10), ("cell", 7)]:
            self.assertEqual(len(text_of_move(rules, position, (("column", 0), goal))), 2)
