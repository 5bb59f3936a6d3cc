"""[57] to [59]: games of which stretches are told as supermoves."""

import itertools
import random
import time
import unittest

from supermoves.errors import InvalidGame, InvalidPosition, InvalidRules
from supermoves.folded import after_long, folded, is_folded, supermove_of, text_of_long, unfolded
from supermoves.going import played
from supermoves.moves import after, can_go
from supermoves.positions import is_supermove
from supermoves.rooms import all_supermoves, fewest_moves, is_sensible
from supermoves.texts import text_of_move
from tests.helpers import BUILDS, changes, junk, places_in, refused, refuses, same, some_position, watched
from tests.test_cards import not_rules
from tests.test_games import ANY, more_games, not_games, plain_positions
from tests.test_moves import GAME, plain_behind, plain_card, plainly_possible, some_game
from tests.test_positions import SMALL, TABLE, not_positions
from tests.test_rooms import FOUR, LAID, all_of, great_positions, plain_end, plainly_sensible
from tests.test_search import plainly_behind_all

OVER = [(("column", 0), ("cell", 0)), (("column", 0), ("column", 1)), (("cell", 0), ("column", 1))]


def plain_supermove(rules, position, game):
    """As [57] tells it, of a game that can go: all supermoves are tried."""
    told = plain_positions(rules, position, game)
    found = []
    for start, goal, many in all_of(rules, position):
        column = position[0][start]
        run, beneath = column[-many:], column[:-many]
        if plain_end(position, (start, goal, many)) != told[-1] or not beneath and not position[0][goal]:
            continue
        moved = [plain_card(here, move[0]) for here, move in zip(told, game)]
        onto = [plain_card(here, move[1]) for here, move in zip(told, game)]
        if all(card in run for card in moved) and not (beneath and beneath[-1] in onto):
            found.append((start, goal, many))
    assert len(found) < 2
    return found[0] if found else None


def plain_foldings(rules, position, game):
    """All long games into which a game folds, by going through all ways of folding it."""
    told = plain_positions(rules, position, game)

    def from_move(low):
        if low == len(game):
            return [[]]
        found = [[game[low]] + rest for rest in from_move(low + 1)]
        for high in range(low + 2, len(game) + 1):
            supermove = plain_supermove(rules, told[low], game[low:high])
            if supermove is not None:
                found += [[supermove] + rest for rest in from_move(high)]
        return found
    return from_move(0)


def supermove_games(seed, many, most=3, loose=0.2):
    """Rules, a position, and a game of supermoves, some of them gone otherwise, and single moves."""
    chance = random.Random(seed)
    found = []
    while len(found) < many:
        rules = (chance.randint(3, 6), chance.randint(1, 3), chance.choice(BUILDS))
        position = some_position(chance, rules, chance.randint(2, 5), chance.randint(0, 3), True)
        game, here = [], position
        for _ in range(chance.randint(1, most)):
            told = [supermove for supermove, _ in all_supermoves(rules, here)]
            if told and chance.random() > loose:
                told.sort(key=lambda supermove: supermove[2])
                part = played(rules, here, chance.choice(told[-3:]))
            else:
                moves = [move for move, _ in plainly_behind_all(rules, here)]
                part = [chance.choice(moves)] if moves else []
            for move in part:
                back = (move[1], move[0])
                behind = plain_behind(here, move)
                if chance.random() < 0.15 and plainly_possible(rules, behind, back):
                    game += [move, back]
                game.append(move)
                here = behind
        found.append((rules, position, game))
    return found


def plain_after(rules, position, long):
    """The position behind a long game, None if it can't go, of a list of moves and of tuples of three numbers."""
    for item in long:
        if len(item) == 2:
            if not set(item) <= set(places_in(position)) or not plainly_possible(rules, position, item):
                return None
            position = plain_behind(position, item)
        else:
            if item not in all_of(rules, position) or not plainly_sensible(rules, position, item):
                return None
            if fewest_moves(rules, position, item) is None:
                return None
            position = plain_end(position, item)
    return position


def long_games(seed, many):
    """Rules, a position, and a long game that can go."""
    chance = random.Random(seed)
    found = []
    for _ in range(many):
        rules = (chance.randint(2, 5), chance.randint(1, 3), chance.choice(BUILDS))
        position = some_position(chance, rules, chance.randint(2, 5), chance.randint(0, 2), True)
        long, here = [], position
        for _ in range(chance.randint(0, 5)):
            told = [supermove for supermove, _ in all_supermoves(rules, here)]
            moves = [move for move, _ in plainly_behind_all(rules, here)]
            if told and chance.random() < 0.6:
                long.append(chance.choice(told))
                here = plain_end(here, long[-1])
            elif moves:
                long.append(chance.choice(moves))
                here = plain_behind(here, long[-1])
        found.append((rules, position, long))
    return found


class OneSupermove(unittest.TestCase):
    def test_supermove_of(self):
        seen = {}
        for rules, position, game in supermove_games(180, 200, 2) + supermove_games(179, 400, 1, 0) + more_games(181):
            wanted = plain_supermove(rules, position, game)
            told = watched(self, supermove_of, rules, position, game)
            self.assertTrue(same(told, wanted), f"{rules} {position} {game}: {told}, not {wanted}")
            many = 0 if wanted is None else wanted[2]
            seen[many] = seen.get(many, 0) + 1
            if wanted is not None:
                self.assertTrue(is_supermove(rules, position, told) and is_sensible(rules, position, told))
        self.assertGreater(min(seen[many] for many in range(4)), 10)

    def test_all_short_games(self):
        seen = {}
        for rules, position in [ANY, (SMALL, TABLE), (FOUR, LAID)]:
            games = [([], position)]
            for _ in range(3):
                games = [(game + [move], behind) for game, here in games
                         for move, behind in plainly_behind_all(rules, here)]
                for game, _ in games[::1 + len(games) // 700]:
                    wanted = plain_supermove(rules, position, game)
                    self.assertTrue(same(supermove_of(rules, position, game), wanted))
                    seen[wanted] = seen.get(wanted, 0) + 1
        self.assertGreaterEqual(len(seen), 8)

    def test_edges(self):
        rules, position = ANY
        self.assertIsNone(supermove_of(rules, position, []))
        self.assertEqual(supermove_of(rules, position, [(("column", 2), ("column", 1))]), (2, 1, 1))
        self.assertEqual(supermove_of(rules, position, [(("column", 0), ("column", 3))]), (0, 3, 1))
        # One card by way of a cell.
        by_cell = [(("column", 0), ("cell", 0)), (("cell", 0), ("column", 2))]
        self.assertEqual(supermove_of(rules, position, by_cell), (0, 2, 1))
        # A whole column into an empty one.
        self.assertIsNone(supermove_of(rules, position, [(("column", 2), ("column", 3))]))
        # Another card moves, though it is back in the end.
        other = [(("column", 2), ("column", 3)), (("column", 3), ("column", 2))]
        self.assertIsNone(supermove_of(rules, position, other + [(("column", 0), ("column", 3))]))
        # A card goes back onto the one that lay beneath.
        there = (("column", 0), ("column", 3))
        self.assertIsNone(supermove_of(rules, position, [there, there[::-1], there]))
        # A run may be back where it stood: then nothing has gone over.
        self.assertIsNone(supermove_of(rules, position, [there, there[::-1]]))
        self.assertIsNone(supermove_of(SMALL, TABLE, GAME[:1]))

    def test_own_column_of_a_whole_run(self):
        rules, position = (3, 2, "any"), ([[(2, 0), (1, 0)], [(3, 0)], []], [None], [0, 2])
        game = [(("column", 0), ("cell", 0)), (("column", 0), ("column", 2)), (("column", 2), ("column", 0)),
                (("column", 0), ("column", 1)), (("cell", 0), ("column", 1))]
        self.assertEqual(supermove_of((3, 2, "any"), (position[0], position[1], [0, 3]), game), (0, 1, 2))
        self.assertEqual(folded(rules, (position[0], position[1], [0, 3]), game), [(0, 1, 2)])


class Folded(unittest.TestCase):
    def test_all_ways_of_folding(self):
        shorter = 0
        for rules, position, game in supermove_games(182, 200) + more_games(183):
            if len(game) > 11:
                continue
            ways = plain_foldings(rules, position, game)
            fewest = min(len(way) for way in ways)
            told = watched(self, folded, rules, position, game)
            self.assertTrue(any(same(told, way) for way in ways))
            self.assertEqual(len(told), fewest)
            for way in ways:
                self.assertIs(is_folded(rules, position, game, way), len(way) == fewest)
            shorter += fewest < len(game)
        self.assertGreater(shorter, 50)

    def test_is_folded(self):
        good = 0
        for rules, position, game in supermove_games(184, 12, 2) + [(*ANY, OVER), (SMALL, TABLE, [])]:
            if len(game) > 9:
                continue
            ways = plain_foldings(rules, position, game)
            fewest = min(len(way) for way in ways)
            ways = [way for way in ways if len(way) == fewest]
            for value in junk() + changes(folded(rules, position, game)) + [game]:
                wanted = any(same(value, way) for way in ways)
                self.assertIs(watched(self, is_folded, rules, position, game, value), wanted, f"{game} {value}")
                good += wanted
        self.assertGreater(good, 10)

    def test_edges(self):
        rules, position = ANY
        self.assertIs(is_folded(rules, position, OVER, [(False, True, 2)]), False)
        self.assertIs(is_folded(rules, position, OVER, [[0, 1, 2]]), False)
        self.assertIs(is_folded(rules, position, OVER, [(0, 1, 2)]), True)
        self.assertEqual(folded(rules, position, []), [])
        self.assertIs(is_folded(rules, position, [], []), True)
        # A single move is told as a move, also where it is a supermove of one card.
        one = [(("column", 2), ("column", 1))]
        self.assertEqual(folded(rules, position, one), one)
        self.assertIs(is_folded(rules, position, one, [(2, 1, 1)]), False)
        # Two moves that are a supermove of one card.
        by_cell = [(("column", 0), ("cell", 0)), (("cell", 0), ("column", 2))]
        self.assertEqual(folded(rules, position, by_cell), [(0, 2, 1)])
        # A whole column into an empty one stays as it is.
        whole = [(("column", 2), ("cell", 0)), (("cell", 0), ("column", 3))]
        self.assertEqual(folded(rules, position, whole), whole)

    def test_items_in_different_places(self):
        # The same supermove there and back: of three ways to part it, only some are told by as few items.
        rules, position = ANY
        game = OVER + [(("column", 1), ("cell", 0)), (("column", 1), ("column", 0)), (("cell", 0), ("column", 0))]
        ways = plain_foldings(rules, position, game)
        fewest = min(len(way) for way in ways)
        self.assertEqual(len(folded(rules, position, game)), fewest)
        for many in range(1, 4):
            items = [OVER[0], (0, 1, 2), (1, 0, 2), (0, 1, 1), (1, 0, 1), game[3]]
            for value in itertools.product(items, repeat=many):
                self.assertIs(is_folded(rules, position, game, list(value)),
                              many == fewest and any(same(list(value), way) for way in ways))


class Unfolded(unittest.TestCase):
    def test_there_and_back(self):
        for rules, position, game in supermove_games(185, 120) + more_games(186):
            long = folded(rules, position, game)
            self.assertTrue(same(watched(self, after_long, rules, position, long), after(rules, position, game)))
            back = watched(self, unfolded, rules, position, long)
            self.assertTrue(can_go(rules, position, back))
            self.assertEqual(after(rules, position, back), after(rules, position, game))
            self.assertLessEqual(len(back), len(game))

    def test_long_games(self):
        for rules, position, long in long_games(187, 200):
            end = plain_after(rules, position, long)
            self.assertTrue(same(watched(self, after_long, rules, position, long), end))
            back = unfolded(rules, position, long)
            self.assertEqual(after(rules, position, back), end)
            words, fewest, here = [], 0, position
            for item in long:
                if len(item) == 2:
                    words.append(text_of_move(rules, here, item))
                    fewest += 1
                    self.assertEqual(back[fewest - 1], item)
                    here = plain_behind(here, item)
                else:
                    words.append(f"{item[0] + 1}{item[1] + 1}x{item[2]}")
                    moves = fewest_moves(rules, here, item)
                    self.assertEqual(after(rules, here, back[fewest:fewest + moves]), plain_end(here, item))
                    fewest += moves
                    here = plain_end(here, item)
            self.assertEqual(len(back), fewest)
            self.assertEqual(watched(self, text_of_long, rules, position, long), " ".join(words))

    def test_what_can_not_go(self):
        good = 0
        for rules, position, long in long_games(188, 15) + [(FOUR, LAID, [(0, 2, 2)]), (*ANY, [(0, 1, 2)])]:
            for value in junk() + changes(long[:3]):
                wanted = None
                if type(value) is list and all(type(item) is tuple and len(item) in (2, 3) for item in value):
                    if all(self.is_plain(item) for item in value):
                        wanted = plain_after(rules, position, value)
                if wanted is None:
                    for function in [after_long, unfolded, text_of_long]:
                        refused(self, InvalidGame, value, function, rules, position, value)
                else:
                    self.assertEqual(after_long(rules, position, value), wanted)
                    good += 1
        self.assertGreater(good, 20)

    def is_plain(self, item):
        if len(item) == 3:
            return all(type(number) is int for number in item)
        return all(type(place) is tuple and len(place) == 2 and type(place[0]) is str and type(place[1]) is int
                   for place in item) and all(place[0] in ("column", "cell", "home") for place in item)

    def test_edges(self):
        rules, position = ANY
        self.assertEqual([after_long(rules, position, []), unfolded(rules, position, []),
                          text_of_long(rules, position, [])], [position, [], ""])
        for value in [[(0, 1, 3)], [(2, 3, 1)], [(0, 0, 1)], [(0, 3, 3)], [(1, 3, 1)], [(0, 1, 2), (0, 1, 2)],
                      [[0, 1, 2]], ((0, 1, 2),), (0, 1, 2), [(0, 1, True)], [(False, 1, 2)]]:
            for function in [after_long, unfolded, text_of_long]:
                refused(self, InvalidGame, value, function, rules, position, value)
        # Sensible, but it can't be done.
        refused(self, InvalidGame, stuck := [(0, 2, 3)], after_long, FOUR, LAID, stuck)
        self.assertEqual(text_of_long(rules, position, [(0, 1, 2), (("column", 2), ("cell", 0))]), "12x2 3a")
        ten = ((20, 1, "same"), ([[] for _ in range(8)] + [[(20, 0)] + [(rank, 0) for rank in range(18, 0, -1)],
                                                           [(19, 0)]], [None] * 7, [0]))
        self.assertEqual(text_of_long(*ten, [(8, 9, 18)]), "90x18")


class Errors(unittest.TestCase):
    def test_errors(self):
        rules, position = (SMALL, InvalidRules, not_rules()), (TABLE, InvalidPosition, not_positions())
        game = (GAME, InvalidGame, not_games())
        for function in [supermove_of, folded]:
            refuses(self, function, rules, position, game)
        refuses(self, is_folded, rules, position, game, ([], None, []))
        bad = [value for value in not_games() if value != [(0, 1, 1)]] + [[(0, 2, 2)], [(0, 1, 1)]]
        for function in [text_of_long, after_long, unfolded]:
            refuses(self, function, rules, position, ([], InvalidGame, bad))

    def test_up_to_the_limits(self):
        begin = time.perf_counter()
        chance = random.Random(189)
        for rules, position in great_positions()[::2]:
            told = [supermove for supermove, _ in all_supermoves(rules, position)]
            games = [some_game(chance, rules, position, 60)[0]]
            if told:
                long = [max(told, key=lambda supermove: supermove[2])]
                games.append(unfolded(rules, position, long)[:60])
                self.assertEqual(after_long(rules, position, long), after(rules, position,
                                                                          unfolded(rules, position, long)))
            for game in games:
                long = folded(rules, position, game)
                self.assertIs(is_folded(rules, position, game, long), True)
                self.assertLessEqual(len(unfolded(rules, position, long)), len(game))
        self.assertLess(time.perf_counter() - begin, 30)
