"""[53] to [56]: games, their texts, ways back, shortcuts, and games told by cards."""

import random
import time
import unittest

from supermoves.errors import InvalidGame, InvalidPosition, InvalidRules, InvalidText
from supermoves.games import (by_cards, by_places, game_of_text, is_shortcut, last_for_good, positions_of, shortcut,
                              text_of_game, way_back)
from supermoves.moves import after, can_go
from supermoves.positions import card_at, place_of
from supermoves.texts import text_of_move
from tests.helpers import (BUILDS, changes, edge_positions, junk, refused, refuses, same, some_position,
                           some_positions, watched)
from tests.test_cards import not_rules
from tests.test_moves import GAME, plain_behind, plain_card, plainly_possible, some_game
from tests.test_positions import SMALL, TABLE, not_positions
from tests.test_search import plainly_behind_all

ANY = ((3, 2, "any"), ([[(3, 0), (2, 1), (1, 0)], [(3, 1)], [(2, 0)], []], [None], [0, 1]))


def plain_positions(rules, position, game):
    """The positions of a list of moves, None if they can't go, replayed move by move."""
    told = [position]
    for move in game:
        if not plainly_possible(rules, told[-1], move):
            return None
        told.append(plain_behind(told[-1], move))
    return told


def round_games(seed, many, most=8):
    """Rules, a position, and a game that often comes back to where it was, the same ones each time."""
    chance = random.Random(seed)
    found = []
    for _ in range(many):
        rules = (chance.randint(2, 5), chance.randint(1, 3), chance.choice(BUILDS))
        position = some_position(chance, rules, chance.randint(2, 4), chance.randint(0, 2), True)
        game, here = [], position
        for _ in range(chance.randint(0, most)):
            if game and chance.random() < 0.3 and plainly_possible(rules, here, (game[-1][1], game[-1][0])):
                move = (game[-1][1], game[-1][0])
            else:
                moves = [move for move, _ in plainly_behind_all(rules, here)]
                near = [move for move in moves if move[1][0] != "home"]
                if not moves:
                    break
                move = chance.choice(near or moves) if chance.random() < 0.8 else chance.choice(moves)
            game.append(move)
            here = plain_behind(here, move)
        found.append((rules, position, game))
    return found


def more_games(seed):
    """Games of all sorts: empty ones, those of edge positions, those that come back."""
    chance = random.Random(seed)
    found = [(rules, position, some_game(chance, rules, position, 6)[0])
             for rules, position in edge_positions() + some_positions(40, seed)]
    found += [(SMALL, TABLE, []), (SMALL, TABLE, GAME), (*ANY, [])]
    return found + round_games(seed + 1, 60)


def not_games():
    """What is no game that can go from TABLE."""
    first = (("cell", 0), ("column", 1))
    return [value for value in junk() if value != []] + [
        [first, first], [list(first)], (first,), first, [(("column", 1), ("column", 0))], GAME + GAME,
        GAME[::-1] + GAME, [(("cell", True), ("column", 1))], [(("cell", 0), ("column", 1)), None], [(0, 1, 1)],
        [(("cell", 0), ("cell", 0))]]


def plain_shortest(rules, told):
    """The fewest moves from the first to the last of some positions through no others, by a search among them."""
    distinct = []
    for one in told:
        if one not in distinct:
            distinct.append(one)
    reached, layer, moves = [told[0]], [told[0]], 0
    while told[-1] not in reached:
        moves += 1
        layer = [one for one in distinct if one not in reached
                 and any(behind == one for here in layer for _, behind in plainly_behind_all(rules, here))]
        reached += layer
    return moves


class Texts(unittest.TestCase):
    def test_positions_of(self):
        for rules, position, game in more_games(160):
            self.assertTrue(same(watched(self, positions_of, rules, position, game),
                                 plain_positions(rules, position, game)))
        self.assertEqual(positions_of(SMALL, TABLE, []), [TABLE])

    def test_texts_there_and_back(self):
        for rules, position, game in more_games(161):
            told = plain_positions(rules, position, game)
            if len(position[0]) > 10 or len(position[1]) > 7:
                continue
            words = [text_of_move(rules, here, move) for here, move in zip(told, game)]
            self.assertEqual(watched(self, text_of_game, rules, position, game), " ".join(words))
            self.assertTrue(same(watched(self, game_of_text, rules, position, " ".join(words)), game))
        self.assertEqual(text_of_game(SMALL, TABLE, []), "")
        self.assertEqual(game_of_text(SMALL, TABLE, ""), [])

    def test_all_short_texts(self):
        signs = "123abh4?"
        texts = [one + other for one in signs for other in signs]
        good = {text_of_game(SMALL, TABLE, [move]): move for move, _ in plainly_behind_all(SMALL, TABLE)}
        self.assertEqual(len(good), 9)
        for text in texts:
            if text in good:
                self.assertEqual(game_of_text(SMALL, TABLE, text), [good[text]])
            else:
                refused(self, InvalidText, text, game_of_text, SMALL, TABLE, text)

    def test_what_is_no_text(self):
        for text in [value for value in junk() if value != ""] + [
                " ", "1h ", " 1h", "1h  ah", "1h,ah", "1h\nah", "1h\n", "1hah", "1H ah", "1h ah ah", "h1", "1", "1h a",
                "1h ah 1h 1h", ["1h"], "?1", "1?", "11", "1h 1h", "1h ah\t", "0a", "-1", "1h ah" * 60, "x" * 300]:
            refused(self, InvalidText, text, game_of_text, SMALL, TABLE, text)
        self.assertEqual(game_of_text(SMALL, TABLE, "1h ah"), GAME)
        self.assertEqual(game_of_text(SMALL, TABLE, " ".join(["ab", "ba"] * 50)), [
            (("cell", 0), ("cell", 1)), (("cell", 1), ("cell", 0))] * 50)

    def test_the_home_is_that_of_the_card(self):
        rules, position = (1, 3, "any"), ([[(1, 0), (1, 2)]], [(1, 1)], [0, 0, 0])
        self.assertEqual(game_of_text(rules, position, "1h ah 1h"), [
            (("column", 0), ("home", 2)), (("cell", 0), ("home", 1)), (("column", 0), ("home", 0))])


class BackAgain(unittest.TestCase):
    def test_last_for_good_and_way_back(self):
        seen = {True: 0, False: 0}
        for rules, position, game in more_games(162) + round_games(163, 200):
            told = plain_positions(rules, position, game)
            good = [at for at, (start, goal) in enumerate(game)
                    if goal[0] == "home" or not plainly_possible(rules, told[at + 1], (goal, start))]
            last = good[-1] if good else None
            self.assertTrue(same(watched(self, last_for_good, rules, position, game), last))
            back = watched(self, way_back, rules, position, game)
            seen[last is None] += 1
            self.assertIs(back is None, last is not None)
            turned = [(goal, start) for start, goal in game[::-1]]
            self.assertIs(can_go(rules, told[-1], turned), last is None)
            if back is not None:
                self.assertTrue(same(back, turned))
                self.assertEqual(after(rules, told[-1], back), position)
        self.assertGreater(min(seen.values()), 50)

    def test_edges(self):
        self.assertIsNone(last_for_good(SMALL, TABLE, []))
        self.assertEqual(way_back(SMALL, TABLE, []), [])
        self.assertEqual(last_for_good(SMALL, TABLE, GAME), 1)
        self.assertIsNone(way_back(SMALL, TABLE, GAME))
        there, bare = (("cell", 0), ("column", 1)), (("column", 0), ("column", 2))
        self.assertEqual(way_back(SMALL, TABLE, [there, bare]), [bare[::-1], there[::-1]])
        self.assertEqual(last_for_good(SMALL, TABLE, [GAME[0], there]), 0)
        # The king of this column can't go back onto the ace.
        rules, buried = (2, 2, "any"), ([[(1, 0), (2, 0)], []], [], [0, 2])
        self.assertEqual(last_for_good(rules, buried, [(("column", 0), ("column", 1))]), 0)


class Shortcuts(unittest.TestCase):
    def test_a_search_among_the_positions(self):
        shorter = 0
        for rules, position, game in more_games(164) + round_games(165, 150):
            told = plain_positions(rules, position, game)
            moves = plain_shortest(rules, told)
            shorter += moves < len(game)
            short = watched(self, shortcut, rules, position, game)
            self.assertEqual(len(short), moves)
            through = plain_positions(rules, position, short)
            self.assertEqual(through[-1], told[-1])
            self.assertTrue(all(one in told for one in through))
            self.assertTrue(all(through.count(one) == 1 for one in through))
            self.assertIs(watched(self, is_shortcut, rules, position, game, short), True)
            self.assertIs(is_shortcut(rules, position, game, game), moves == len(game))
        self.assertGreater(shorter, 50)

    def test_is_shortcut(self):
        good = 0
        for rules, position, game in round_games(166, 25, 5) + [(SMALL, TABLE, GAME), (SMALL, TABLE, [])]:
            told = plain_positions(rules, position, game)
            moves, short = plain_shortest(rules, told), shortcut(rules, position, game)
            for value in junk() + changes(short) + changes(game):
                wanted = type(value) is list and len(value) == moves and can_go(rules, position, value)
                if wanted:
                    through = plain_positions(rules, position, value)
                    wanted = through[-1] == told[-1] and all(one in told for one in through)
                self.assertIs(is_shortcut(rules, position, game, value), wanted, f"{game} {value}")
                good += wanted
        self.assertGreater(good, 10)

    def test_only_through_positions_of_the_game(self):
        # Both cards could go in the other order, but this comes through a position that the game does not have.
        rules, position = (3, 2, "any"), ([[(3, 0)], [(3, 1)], []], [None, None], [2, 2])
        game = [(("column", 0), ("cell", 0)), (("column", 1), ("cell", 1))]
        self.assertIs(is_shortcut(rules, position, game, game), True)
        self.assertIs(is_shortcut(rules, position, game, game[::-1]), False)
        # Nor may a shorter way be gone through another place.
        game = [(("column", 0), ("cell", 0)), (("cell", 0), ("cell", 1)), (("cell", 1), ("column", 2))]
        self.assertEqual(shortcut(rules, position, game), [(("column", 0), ("column", 2))])
        self.assertIs(is_shortcut(rules, position, game, [(("column", 0), ("column", 2))]), True)

    def test_a_game_that_comes_back(self):
        game = [(("cell", 0), ("cell", 1)), (("cell", 1), ("cell", 0))]
        self.assertEqual(shortcut(SMALL, TABLE, game), [])
        self.assertIs(is_shortcut(SMALL, TABLE, game, []), True)
        self.assertIs(is_shortcut(SMALL, TABLE, game, game), False)
        self.assertEqual(shortcut(SMALL, TABLE, []), [])


class ByCards(unittest.TestCase):
    def test_there_and_back(self):
        for rules, position, game in more_games(167) + round_games(168, 60):
            told = plain_positions(rules, position, game)
            wanted = [(plain_card(here, start), goal) for here, (start, goal) in zip(told, game)]
            self.assertTrue(same(watched(self, by_cards, rules, position, game), wanted))
            self.assertTrue(same(watched(self, by_places, rules, position, wanted), game))

    def test_what_is_told_by_no_game(self):
        good = 0
        for rules, position, game in round_games(169, 12, 4) + [(SMALL, TABLE, GAME)]:
            for value in junk() + changes(by_cards(rules, position, game)):
                wanted = []
                here = position
                for item in value if type(value) is list else [None]:
                    moves = [(move, behind) for move, behind in plainly_behind_all(rules, here)
                             if same((plain_card(here, move[0]), move[1]), item)]
                    if not moves:
                        wanted = None
                        break
                    wanted.append(moves[0][0])
                    here = moves[0][1]
                if wanted is None:
                    refused(self, InvalidGame, value, by_places, rules, position, value)
                else:
                    self.assertTrue(same(by_places(rules, position, value), wanted))
                    good += 1
        self.assertGreater(good, 30)

    def test_edges(self):
        for value in [[((3, 0), ("column", 2))], [((1, 0), ("cell", 1))], [((2, 1), ("column", 0))],
                      [((2, 0), ("cell", 0))], [((2, 1), ("home", 0))], [((2, True), ("home", 1))]]:
            refused(self, InvalidGame, value, by_places, SMALL, TABLE, value)
        self.assertEqual(by_places(SMALL, TABLE, [((2, 1), ("home", 1)), ((3, 0), ("column", 2))]),
                         [(("column", 0), ("home", 1)), (("column", 0), ("column", 2))])
        self.assertEqual(by_places(SMALL, TABLE, []), [])
        self.assertEqual([place_of(SMALL, TABLE, (3, 0)), card_at(SMALL, TABLE, ("column", 0))],
                         [("column", 0), (2, 1)])


class Errors(unittest.TestCase):
    def test_errors(self):
        rules, position = (SMALL, InvalidRules, not_rules()), (TABLE, InvalidPosition, not_positions())
        game = (GAME, InvalidGame, not_games())
        for function in [positions_of, text_of_game, last_for_good, way_back, shortcut, by_cards]:
            refuses(self, function, rules, position, game)
        refuses(self, is_shortcut, rules, position, game, ([], None, []))
        refuses(self, game_of_text, rules, position, ("1h", InvalidText, [value for value in junk() if value != ""]))
        refuses(self, by_places, rules, position, ([((2, 0), ("cell", 1))], InvalidGame, not_games()))

    def test_up_to_the_limits(self):
        begin = time.perf_counter()
        chance = random.Random(170)
        for build in BUILDS:
            rules = (20, 8, build)
            position = some_position(chance, rules, 10, 7, True)
            game, end = some_game(chance, rules, position, 60)
            self.assertEqual(positions_of(rules, position, game)[-1], end)
            self.assertEqual(game_of_text(rules, position, text_of_game(rules, position, game)), game)
            short = shortcut(rules, position, game)
            self.assertIs(is_shortcut(rules, position, game, short), True)
            self.assertEqual(by_places(rules, position, by_cards(rules, position, game)), game)
            self.assertIs(way_back(rules, position, game) is None, last_for_good(rules, position, game) is not None)
        self.assertLess(time.perf_counter() - begin, 30)
