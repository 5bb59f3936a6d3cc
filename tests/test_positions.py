"""[4] and [6]: positions and what is told of them."""

import unittest

from supermoves.errors import InvalidCard, InvalidNumber, InvalidPlace, InvalidPosition, InvalidRules
from supermoves.positions import (card_at, dealt, is_kind, is_move, is_place, is_position, is_room, is_supermove,
                                  is_won, place_of, runs)
from tests.helpers import (KINDS, all_cards, changes, deep, edge_positions, junk, not_counts, not_numbers, places_in,
                           plainly_lies_on, refuses, some_positions, watched)
from tests.test_cards import not_cards, not_rules, plainly_card, plainly_number

SMALL = (3, 2, "other")
TABLE = ([[(3, 0), (2, 1)], [(3, 1)], []], [(2, 0), None], [1, 1])


def plainly_position(rules, value):
    """As [4] tells it, going through the deck card by card."""
    if type(value) is not tuple or len(value) != 3:
        return False
    columns, cells, homes = value
    if not all(type(part) is list for part in value) or not columns or len(homes) != rules[1]:
        return False
    if not all(type(column) is list for column in columns):
        return False
    about = [card for column in columns for card in column] + [card for card in cells if card is not None]
    if not all(plainly_card(rules, card) for card in about):
        return False
    if not all(plainly_number(home, 0, rules[0]) for home in homes):
        return False
    return all(about.count(card) + (card[0] <= homes[card[1]]) == 1 for card in all_cards(rules))


def plainly_run(rules, column):
    for many in range(len(column), 1, -1):
        last = column[-many:]
        if all(plainly_lies_on(rules, last[at + 1], last[at]) for at in range(many - 1)):
            return many
    return min(1, len(column))


def plainly_room(value):
    if type(value) is not tuple or len(value) != 3 or type(value[2]) is not list:
        return False
    good = plainly_number(value[0], 0, 10 ** 40) and plainly_number(value[1], 0, 10 ** 40)
    good = good and all(plainly_number(top, 1, 10 ** 40) for top in value[2])
    return good and sorted(set(value[2])) == value[2]


def not_positions():
    """What is no position of the rules SMALL."""
    columns, cells, homes = TABLE
    return junk() + [
        list(TABLE), TABLE[:2], TABLE + ([],), (tuple(columns), cells, homes), (columns, tuple(cells), homes),
        (columns, cells, tuple(homes)), ([tuple(column) for column in columns], cells, homes),
        (columns, [None, None], homes), (columns, cells + [(2, 0)], homes), (columns, cells, [2, 1]),
        (columns, cells, [1, 0]), (columns, cells, [1]), (columns, cells, [1, 1, 0]), (columns, cells, [True, True]),
        (columns, cells, [1, -1]), (columns, cells, [1, 4]), (columns + [None], cells, homes),
        ([[(3, 0), [2, 1]], [(3, 1)], []], cells, homes), ([], [(2, 0), (2, 1), (3, 0), (3, 1)], homes),
        ([[(3, False), (2, 1)], [(3, 1)], []], cells, homes), (columns, [(2, 0), False], homes),
        ([[(3, 0), None, (2, 1)], [(3, 1)], []], cells, homes), ([], [], [3, 3]), ([[(4, 0)]], [], [3, 3]),
    ]


def not_places():
    """What is no place of TABLE."""
    return junk() + [("column", 3), ("column", -1), ("cell", 2), ("home", 2), ("column", True), ("cell", False),
                     ["column", 0], ("Column", 0), ("columns", 0), (0, "column"), ("column",), ("column", 0, 0),
                     ("", 0), (["column"], 0), ("column", "0"), ("home", 10 ** 29), ("column", None)]


class Positions(unittest.TestCase):
    def test_positions(self):
        for rules, position in edge_positions() + some_positions(60, 1):
            self.assertTrue(plainly_position(rules, position))
            self.assertIs(watched(self, is_position, rules, position), True)

    def test_slight_changes(self):
        for rules, position in edge_positions()[:5] + [(SMALL, TABLE)] + some_positions(10, 2, 3, 2):
            for value in changes(position):
                self.assertIs(is_position(rules, value), plainly_position(rules, value), f"{rules} {value}")

    def test_of_other_rules(self):
        for rules, position in some_positions(40, 3):
            for others in [(rules[0] + 1, rules[1], "any"), (max(1, rules[0] - 1), rules[1], "any"),
                           (rules[0], rules[1] + 1, "same"), (rules[0], max(1, rules[1] - 1), "same")]:
                self.assertIs(is_position(others, position), plainly_position(others, position))
            self.assertIs(is_position((rules[0], rules[1], "any"), position), True)

    def test_what_is_no_position(self):
        for value in not_positions():
            self.assertIs(watched(self, is_position, SMALL, value), False, value)

    def test_columns_that_share_a_list(self):
        empty = []
        self.assertIs(is_position((1, 1, "any"), ([empty, empty], empty, [1])), True)

    def test_errors(self):
        refuses(self, is_position, (SMALL, InvalidRules, not_rules()), (TABLE, None, not_positions()))


class Places(unittest.TestCase):
    def test_all_places(self):
        for rules, position in edge_positions() + some_positions(30, 4):
            for place in places_in(position):
                self.assertIs(is_place(rules, position, place), True)
            for sort, part in [("column", 0), ("cell", 1), ("home", 2)]:
                self.assertIs(is_place(rules, position, (sort, len(position[part]))), False)
                self.assertIs(is_place(rules, position, (sort, -1)), False)

    def test_what_is_no_place(self):
        for value in not_places():
            self.assertIs(watched(self, is_place, SMALL, TABLE, value), False, value)

    def test_moves(self):
        for rules, position in edge_positions()[:4] + some_positions(12, 5):
            places = places_in(position)
            for start in places:
                for goal in places:
                    wanted = start != goal and start[0] != "home"
                    self.assertIs(is_move(rules, position, (start, goal)), wanted)

    def test_slight_changes_of_moves(self):
        places = places_in(TABLE)
        moves = [(start, goal) for start in places[:5] for goal in places if start != goal]
        for move in moves:
            for value in changes(move):
                wanted = any(value == one and type(value[0][1]) is int and type(value[1][1]) is int for one in moves
                             if type(value) is tuple)
                self.assertIs(is_move(SMALL, TABLE, value), wanted, value)

    def test_what_is_no_move(self):
        for value in junk() + [(("column", 0), place) for place in not_places()]:
            self.assertIs(watched(self, is_move, SMALL, TABLE, value), False)
        for value in [(place, ("column", 0)) for place in not_places()] + [[("column", 0), ("column", 1)]]:
            self.assertIs(watched(self, is_move, SMALL, TABLE, value), False)

    def test_where_cards_stand(self):
        for rules, position in edge_positions() + some_positions(40, 6):
            columns, cells, homes = position
            for card in all_cards(rules):
                place = watched(self, place_of, rules, position, card)
                if card[0] <= homes[card[1]]:
                    self.assertEqual(place, ("home", card[1]))
                elif card in cells:
                    self.assertEqual(place, ("cell", cells.index(card)))
                else:
                    self.assertEqual(place[0], "column")
                    self.assertIn(card, columns[place[1]])

    def test_what_could_be_taken(self):
        for rules, position in edge_positions() + some_positions(40, 7):
            columns, cells, homes = position
            for place in places_in(position):
                card = watched(self, card_at, rules, position, place)
                if place[0] == "column":
                    self.assertEqual(card, (columns[place[1]] + [None] if not columns[place[1]]
                                            else columns[place[1]])[-1])
                elif place[0] == "cell":
                    self.assertEqual(card, cells[place[1]])
                else:
                    self.assertEqual(card, (homes[place[1]], place[1]) if homes[place[1]] else None)

    def test_errors(self):
        rules, position = (SMALL, InvalidRules, not_rules()), (TABLE, InvalidPosition, not_positions())
        for function, good in [(is_place, ("cell", 0)), (is_move, (("cell", 0), ("cell", 1))),
                               (is_supermove, (0, 1, 1))]:
            refuses(self, function, rules, position, (good, None, not_places()))
        refuses(self, place_of, rules, position, ((2, 1), InvalidCard, not_cards()))
        refuses(self, card_at, rules, position, (("cell", 1), InvalidPlace, not_places()))
        refuses(self, runs, rules, position)
        refuses(self, is_won, rules, position)


class Runs(unittest.TestCase):
    def test_runs(self):
        for rules, position in edge_positions() + some_positions(80, 8):
            told = watched(self, runs, rules, position)
            self.assertEqual(told, [plainly_run(rules, column) for column in position[0]])

    def test_run_of_a_whole_deck(self):
        column = [(rank, 0) for rank in range(20, 0, -1)]
        self.assertEqual(runs((20, 1, "same"), ([column, []], [], [0])), [20, 0])
        self.assertEqual(runs((20, 1, "any"), ([column, []], [], [0])), [20, 0])
        self.assertEqual(runs((20, 1, "other"), ([column, []], [], [0])), [1, 0])

    def test_supermoves(self):
        seen = 0
        for rules, position in some_positions(40, 9):
            columns = position[0]
            lengths = [plainly_run(rules, column) for column in columns]
            for start in range(-1, len(columns) + 1):
                for goal in range(-1, len(columns) + 1):
                    for many in range(-1, 7):
                        inside = 0 <= start < len(columns) and 0 <= goal < len(columns)
                        wanted = inside and start != goal and 1 <= many <= lengths[start]
                        seen += wanted and many > 1
                        self.assertIs(is_supermove(rules, position, (start, goal, many)), wanted)
        self.assertGreater(seen, 20)

    def test_what_is_no_supermove(self):
        for value in junk() + [[0, 1, 1], (0, 1), (0, 1, 1, 1), (True, 0, 1), (0, True, 1), (0, 1, True),
                               (0, 1, 3), (2, 0, 1), (0, 0, 1), (0, 3, 1), (3, 0, 1), (0, 1, 10 ** 29), ("0", 1, 1)]:
            self.assertIs(watched(self, is_supermove, SMALL, TABLE, value), False, value)


class KindsAndRooms(unittest.TestCase):
    def test_kinds(self):
        for value in KINDS:
            self.assertIs(watched(self, is_kind, value), True)
        for value in junk() + ["Over", "overs", "ove", "INTO", " whole", "other", KINDS, tuple(KINDS)]:
            self.assertIs(watched(self, is_kind, value), False)

    def test_rooms(self):
        for value in [(0, 0, []), (1, 0, [1, 4]), (10 ** 29, 100, list(range(1, 21))), (0, 10 ** 29, [10 ** 29]),
                      (6, 5, list(range(1, 40)))]:
            self.assertIs(watched(self, is_room, value), True)

    def test_slight_changes_of_rooms(self):
        for room in [(0, 0, []), (1, 0, [1, 4]), (2, 3, [1, 2, 7])]:
            for value in changes(room):
                self.assertIs(is_room(value), plainly_room(value), value)

    def test_what_is_no_room(self):
        for value in junk() + [(1, 0, [4, 1]), (1, 0, [1, 1]), (1, 0, [0]), (1, 0, (1,)), [1, 0, []], (1, 0),
                               (True, 0, []), (0, False, []), (0, 0, [True]), (-1, 0, []), (0, -1, []),
                               (0, 0, None), (0, 0, deep(28))]:
            self.assertIs(watched(self, is_room, value), False, value)


class Dealt(unittest.TestCase):
    def test_dealt_round_and_round(self):
        for rules in [(1, 1, "any"), (3, 2, "other"), (5, 3, "same"), (20, 8, "any")]:
            cards = all_cards(rules)[::-1]
            for columns in [1, 2, 3, 10]:
                for cells in [0, 1, 7]:
                    table = [[] for _ in range(columns)]
                    for at, card in enumerate(cards):
                        table[at % columns].append(card)
                    position = watched(self, dealt, rules, cards, columns, cells)
                    self.assertEqual(position, (table, [None] * cells, [0] * rules[1]))
                    self.assertTrue(is_position(rules, position))

    def test_errors(self):
        cards = all_cards(SMALL)
        bad = junk() + [cards[1:], cards + [(1, 0)], cards[1:] + [(2, 0)], tuple(cards), cards[:-1] + [(4, 0)],
                        cards[:-1] + [[3, 1]], [(True, 0)] + cards[1:], cards[:-1] + [None]]
        refuses(self, dealt, (SMALL, InvalidRules, not_rules()), (cards, InvalidCard, bad),
                (2, InvalidNumber, not_numbers()), (1, InvalidNumber, not_counts()))


class Won(unittest.TestCase):
    def test_won(self):
        for rules, position in edge_positions() + some_positions(40, 10):
            wanted = position[2] == [rules[0]] * rules[1]
            self.assertIs(watched(self, is_won, rules, position), wanted)
        self.assertIs(is_won(SMALL, ([[], []], [], [3, 3])), True)
        self.assertIs(is_won(SMALL, ([[(3, 1)], []], [], [3, 2])), False)
        self.assertIs(is_won(SMALL, ([[]], [(3, 0)], [2, 3])), False)
