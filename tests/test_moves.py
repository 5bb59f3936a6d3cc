"""[8] to [10]: single moves and games."""

import random
import time
import unittest

from supermoves.errors import InvalidGame, InvalidMove, InvalidPosition, InvalidRules
from supermoves.moves import after, behind, can_go, goes_back, is_possible, possible_moves
from supermoves.positions import is_position
from tests.helpers import (changes, edge_positions, junk, places_in, plainly_lies_on, refused, refuses, same,
                           some_positions, watched)
from tests.test_cards import not_rules
from tests.test_positions import SMALL, TABLE, not_places, not_positions

GAME = [(("column", 0), ("home", 1)), (("cell", 0), ("home", 0))]


def plain_card(position, place):
    if place[0] == "home":
        return None
    if place[0] == "cell":
        return position[1][place[1]]
    return position[0][place[1]][-1] if position[0][place[1]] else None


def plainly_possible(rules, position, move):
    """As [8] tells it."""
    start, goal = move
    card = plain_card(position, start)
    if card is None or start == goal:
        return False
    if goal[0] == "column":
        top = plain_card(position, goal)
        return top is None or plainly_lies_on(rules, card, top)
    if goal[0] == "cell":
        return position[1][goal[1]] is None
    return goal[1] == card[1] and position[2][card[1]] + 1 == card[0]


def plain_behind(position, move):
    """As [9] tells it."""
    start, goal = move
    card = plain_card(position, start)
    columns = [column[:-1] if ("column", at) == start else column + [card] * (("column", at) == goal)
               for at, column in enumerate(position[0])]
    cells = [None if ("cell", at) == start else card if ("cell", at) == goal else held
             for at, held in enumerate(position[1])]
    homes = [home + (("home", at) == goal) for at, home in enumerate(position[2])]
    return (columns, cells, homes)


def some_game(chance, rules, position, many):
    game = []
    for _ in range(many):
        moves = [(start, goal) for start in places_in(position) for goal in places_in(position)
                 if plainly_possible(rules, position, (start, goal))]
        if not moves:
            break
        game.append(chance.choice(moves))
        position = plain_behind(position, game[-1])
    return game, position


def plain_end(rules, position, value):
    """The position behind a game, None if it can't go, for values that are lists of tuples of places."""
    for move in value:
        if not plainly_possible(rules, position, move):
            return None
        position = plain_behind(position, move)
    return position


def impossible_moves():
    """Values that are no possible moves in TABLE."""
    places = places_in(TABLE)
    moves = [(start, goal) for start in places for goal in places if not plainly_possible(SMALL, TABLE, (start, goal))]
    return junk() + [(("cell", 0), place) for place in not_places()] + moves + [[("cell", 0), ("cell", 1)]]


class Moves(unittest.TestCase):
    def test_all_pairs_of_places(self):
        kinds = set()
        for rules, position in edge_positions() + some_positions(60, 20):
            places = places_in(position)
            wanted = []
            for start in places:
                for goal in places:
                    possible = plainly_possible(rules, position, (start, goal))
                    self.assertIs(is_possible(rules, position, (start, goal)), possible)
                    if possible:
                        wanted.append((start, goal))
                        kinds.add((start[0], goal[0]))
            self.assertEqual(watched(self, possible_moves, rules, position), wanted)
            self.assertEqual(wanted, sorted(wanted))
        self.assertEqual(len(kinds), 6)

    def test_what_is_no_possible_move(self):
        for value in impossible_moves():
            self.assertIs(watched(self, is_possible, SMALL, TABLE, value), False)

    def test_slight_changes_of_moves(self):
        good = possible_moves(SMALL, TABLE)
        for move in good:
            for value in changes(move):
                wanted = any(same(value, one) for one in good)
                self.assertIs(is_possible(SMALL, TABLE, value), wanted, value)

    def test_all_at_home_and_no_cells(self):
        self.assertEqual(possible_moves((3, 2, "any"), ([[], []], [None], [3, 3])), [])
        self.assertEqual(possible_moves((1, 1, "any"), ([[(1, 0)]], [], [0])), [(("column", 0), ("home", 0))])
        self.assertEqual(possible_moves((2, 1, "any"), ([[(1, 0), (2, 0)]], [], [0])), [])

    def test_many_columns_are_told_in_order_of_numbers(self):
        position = ([[(2, 0)]] + [[] for _ in range(11)], [], [1])
        goals = [("column", number) for number in range(1, 12)] + [("home", 0)]
        self.assertEqual(possible_moves((2, 1, "any"), position), [(("column", 0), goal) for goal in goals])

    def test_behind_and_back(self):
        seen = {True: 0, False: 0}
        for rules, position in edge_positions() + some_positions(50, 21):
            for move in possible_moves(rules, position):
                then = watched(self, behind, rules, position, move)
                self.assertEqual(then, plain_behind(position, move))
                self.assertTrue(is_position(rules, then))
                start, goal = move
                back = watched(self, goes_back, rules, position, move)
                self.assertIs(back, goal[0] != "home" and plainly_possible(rules, then, (goal, start)))
                seen[back] += 1
                left = plain_card(then, start)
                card = plain_card(position, start)
                kept = start[0] == "cell" or left is None or plainly_lies_on(rules, card, left)
                self.assertIs(back, goal[0] != "home" and kept)
                if back:
                    self.assertEqual(behind(rules, then, (goal, start)), position)
        self.assertGreater(min(seen.values()), 50)

    def test_errors(self):
        rules, position = (SMALL, InvalidRules, not_rules()), (TABLE, InvalidPosition, not_positions())
        move = ((("cell", 0), ("cell", 1)), InvalidMove, impossible_moves())
        refuses(self, possible_moves, rules, position)
        refuses(self, is_possible, rules, position, (move[0], None, impossible_moves()))
        refuses(self, behind, rules, position, move)
        refuses(self, goes_back, rules, position, move)


class Games(unittest.TestCase):
    def test_games(self):
        chance = random.Random(22)
        for rules, position in edge_positions() + some_positions(50, 23):
            game, then = some_game(chance, rules, position, 12)
            self.assertIs(watched(self, can_go, rules, position, game), True)
            self.assertTrue(same(watched(self, after, rules, position, game), then))
            homes = position[2]
            for many in range(len(game) + 1):
                table = after(rules, position, game[:many])
                self.assertTrue(is_position(rules, table))
                self.assertTrue(all(low <= high for low, high in zip(homes, table[2])))
                homes = table[2]

    def test_the_empty_game(self):
        for rules, position in edge_positions():
            self.assertIs(watched(self, can_go, rules, position, []), True)
            self.assertTrue(same(watched(self, after, rules, position, []), position))

    def test_games_with_a_slip(self):
        chance = random.Random(24)
        seen = {True: 0, False: 0}
        for rules, position in some_positions(30, 25):
            game, _ = some_game(chance, rules, position, 6)
            for value in [game[:at] + game[at + 1:] for at in range(len(game))] + [game[::-1], game + game]:
                then = plain_end(rules, position, value)
                self.assertIs(watched(self, can_go, rules, position, value), then is not None)
                seen[then is not None] += 1
                if then is None:
                    refused(self, InvalidGame, value, after, rules, position, value)
                else:
                    self.assertEqual(after(rules, position, value), then)
        self.assertGreater(min(seen.values()), 20)

    def test_what_is_no_game(self):
        moves = possible_moves(SMALL, TABLE)
        # A list that is empty is a game.
        values = [value for value in junk() + changes(GAME) if value != [] and not isinstance(value, list)]
        values += [[value] for value in impossible_moves()] + [GAME + [value] for value in impossible_moves()[:30]]
        values += [tuple(GAME), (), [list(GAME[0])], [GAME], moves[0], [[]]]
        for value in values:
            self.assertIs(watched(self, can_go, SMALL, TABLE, value), False, value)
            refused(self, InvalidGame, value, after, SMALL, TABLE, value)

    def test_errors(self):
        rules, position = (SMALL, InvalidRules, not_rules()), (TABLE, InvalidPosition, not_positions())
        refuses(self, can_go, rules, position, (GAME, None, [None]))
        refuses(self, after, rules, position, (GAME, InvalidGame, [GAME + GAME, tuple(GAME), None, GAME[:1] + [0]]))

    def test_great_positions(self):
        begin = time.perf_counter()
        rules = (20, 8, "any")
        cards = [(rank, suit) for rank in range(20, 0, -1) for suit in range(8)]
        position = ([cards[at::10] for at in range(10)], [None] * 7, [0] * 8)
        game, then = some_game(random.Random(26), rules, position, 60)
        self.assertEqual(len(game), 60)
        self.assertEqual(after(rules, position, game), then)
        self.assertLess(time.perf_counter() - begin, 10)
