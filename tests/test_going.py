"""[38] and [39]: supermoves as games, and the goals of a run."""

import itertools
import time
import unittest

from supermoves.errors import InvalidNumber, InvalidPosition, InvalidRules, InvalidSupermove, Stuck
from supermoves.going import behind_supermove, goals_of, is_played, played
from supermoves.moves import after
from supermoves.positions import is_position
from supermoves.rooms import all_supermoves, fewest_moves, is_sensible
from tests.helpers import (KINDS, changes, edge_positions, junk, places_in, refused, refuses, same, some_positions,
                           watched)
from tests.test_cards import not_rules
from tests.test_moves import plain_behind, plain_card, plainly_possible
from tests.test_positions import TABLE
from tests.test_rooms import (FOUR, LAID, all_of, great_positions, not_supermoves, own_moves, plain_end,
                              plainly_sensible, positions_with_runs, run_position, run_positions, searched_moves)


def plainly_done(rules, position, supermove, game):
    """Whether a list of tuples of places is a game that does a supermove, as [37] tells it, of whatever length."""
    start, _, many = supermove
    run, beneath = position[0][start][-many:], position[0][start][:-many][-1:]
    here = position
    for begin, end in game:
        if not plainly_possible(rules, here, (begin, end)) or plain_card(here, begin) not in run or end[0] == "home":
            return False
        if beneath and plain_card(here, end) == beneath[0]:
            return False
        here = plain_behind(here, (begin, end))
    return here == plain_end(position, supermove)


def games_of_own_moves(rules, position, supermove, here, length):
    """All games of so many moves of the run's cards that [37] allows."""
    if length == 0:
        return [[]]
    return [[move] + rest for move, behind in own_moves(rules, position, supermove, here)
            for rest in games_of_own_moves(rules, position, supermove, behind, length - 1)]


class Played(unittest.TestCase):
    def check(self, rules, position, supermove):
        moves = fewest_moves(rules, position, supermove)
        if moves is None:
            refused(self, Stuck, supermove, played, rules, position, supermove)
            refused(self, Stuck, supermove, behind_supermove, rules, position, supermove)
            self.assertIs(is_played(rules, position, supermove, []), False)
            return
        game = watched(self, played, rules, position, supermove)
        self.assertEqual(len(game), moves)
        self.assertTrue(plainly_done(rules, position, supermove, game), f"{rules} {position} {supermove} {game}")
        self.assertIs(watched(self, is_played, rules, position, supermove, game), True)
        end = watched(self, behind_supermove, rules, position, supermove)
        self.assertTrue(same(end, plain_end(position, supermove)) and is_position(rules, end))
        self.assertEqual(after(rules, position, game), end)

    def test_all_supermoves(self):
        for rules, position in positions_with_runs(110, 60) + edge_positions() + some_positions(20, 111):
            if len(position[0]) > 9 or rules[0] * rules[1] > 40:
                continue
            for supermove in all_of(rules, position):
                if plainly_sensible(rules, position, supermove):
                    self.check(rules, position, supermove)
                else:
                    for function in [played, behind_supermove]:
                        refused(self, InvalidSupermove, supermove, function, rules, position, supermove)
                    refused(self, InvalidSupermove, supermove, is_played, rules, position, supermove, [])

    def test_all_small_rooms(self):
        for (rules, position, supermove), _, _ in run_positions(5, 2, 2)[::3]:
            self.check(rules, position, supermove)

    def test_all_columns_are_wanted_on_the_way(self):
        # Into: all that are empty are taken at times, the goal among them, which has to be left empty again ahead of
        # the last card. Whole: on the way back the own column is taken, too.
        wanted = {kind: 0 for kind in KINDS}
        for kind, many, cells, empty in itertools.product(KINDS, range(5, 13), [0, 1, 2], [2, 3, 4]):
            rules, position, supermove = run_position(kind, many, cells, empty, [])
            self.check(rules, position, supermove)
            if fewest_moves(rules, position, supermove) is not None:
                here = position
                for move in played(rules, position, supermove):
                    here = plain_behind(here, move)
                    wanted[kind] += here[0].count([]) == 0 and ((many, 0) in here[0][0] or move[1] == ("column", 0))
        self.assertGreater(wanted["into"], 0)
        self.assertGreater(wanted["whole"], 0)

    def test_tops_take_cards_of_the_run(self):
        rules, position, supermove = run_position("over", 4, 0, 0, [1, 2, 3])
        game = played(rules, position, supermove)
        self.assertEqual([end for _, end in game][:3], [("column", 2), ("column", 3), ("column", 4)])
        self.check(rules, position, supermove)

    def test_up_to_the_limits(self):
        begin = time.perf_counter()
        for rules, position in great_positions():
            for supermove, moves in all_supermoves(rules, position)[::19]:
                game = played(rules, position, supermove)
                self.assertEqual(len(game), moves)
                self.assertTrue(plainly_done(rules, position, supermove, game))
                self.assertIs(is_played(rules, position, supermove, game), True)
        self.assertLess(time.perf_counter() - begin, 30)


class IsPlayed(unittest.TestCase):
    def cases(self):
        tall = run_position("whole", 2, 0, 1, [])
        return [(FOUR, LAID, (0, 2, 2)), (FOUR, LAID, (3, 1, 1)), run_position("over", 3, 1, 0, [2]),
                run_position("into", 2, 1, 2, []), run_position("whole", 2, 1, 0, []), tall,
                run_position("over", 2, 2, 0, [1], False)]

    def test_all_games_of_few_moves(self):
        for rules, position, supermove in self.cases():
            fewest = fewest_moves(rules, position, supermove)
            places = places_in(position)
            moves = [(begin, end) for begin, end in itertools.permutations(places, 2) if begin[0] != "home"]
            done = 0
            for length in range(0, min(fewest, 3) + 1):
                pool = moves if length < 3 else [move for move in moves if move[1][0] != "home"][::2]
                for game in itertools.product(pool, repeat=length):
                    if length == 3 and not plainly_possible(rules, position, game[0]):
                        continue
                    wanted = length == fewest and plainly_done(rules, position, supermove, game)
                    self.assertIs(is_played(rules, position, supermove, list(game)), wanted)
                    done += wanted
            self.assertIs(is_played(rules, position, supermove, played(rules, position, supermove)), True)

    def test_all_games_of_own_moves(self):
        for rules, position, supermove in self.cases():
            fewest = searched_moves(rules, position, supermove)
            done = 0
            for game in games_of_own_moves(rules, position, supermove, position, fewest):
                wanted = plainly_done(rules, position, supermove, game)
                self.assertIs(is_played(rules, position, supermove, game), wanted)
                done += wanted
            self.assertGreater(done, 0)
            for length in (fewest - 1, fewest + 1):
                for game in games_of_own_moves(rules, position, supermove, position, length)[:200]:
                    self.assertIs(is_played(rules, position, supermove, game), False)

    def test_detours_and_other_cards(self):
        rules, position, supermove = run_position("into", 2, 1, 2, [])
        game = played(rules, position, supermove)
        first, back = game[0], (game[0][1], game[0][0])
        self.assertIs(is_played(rules, position, supermove, [first, back] + game), False)
        self.assertIs(is_played(rules, position, supermove, game[:-1]), False)
        self.assertIs(is_played(rules, position, supermove, game + [first]), False)
        # The run's ace could go home, and another card could go and come back.
        self.assertIs(is_played(FOUR, LAID, (0, 2, 1), [(("column", 0), ("home", 1))]), False)
        self.assertIs(is_played(FOUR, LAID, (0, 2, 1), [(("column", 1), ("column", 2))]), False)
        self.assertIs(is_played(FOUR, LAID, (0, 2, 1), [(("column", 0), ("column", 2))]), True)

    def test_another_card_makes_room(self):
        # A card goes over and leaves its column empty: the run wants two moves fewer, and the card comes back.
        rules, position, supermove = run_position("over", 4, 0, 2, [])
        position[0].extend([[(5, 2)], [(6, 2)]])
        position[2][2] = 4
        self.assertEqual(fewest_moves(rules, position, supermove), 9)
        away = (("column", 4), ("column", 5))
        there = [(("column", 0), ("column", 2)), (("column", 0), ("column", 3)), (("column", 0), ("column", 4))]
        back = [(("column", number), ("column", 1)) for number in (0, 4, 3, 2)]
        game = [away] + there + back + [(away[1], away[0])]
        self.assertEqual(after(rules, position, game), behind_supermove(rules, position, supermove))
        self.assertEqual(len(game), 9)
        self.assertIs(is_played(rules, position, supermove, game), False)

    def test_slight_changes(self):
        for rules, position, supermove in self.cases()[:4]:
            good = [game for game in games_of_own_moves(rules, position, supermove, position,
                                                        searched_moves(rules, position, supermove))
                    if plainly_done(rules, position, supermove, game)]
            for value in junk() + [tuple(good[0])] + changes(good[0]):
                wanted = any(same(value, game) for game in good)
                self.assertIs(watched(self, is_played, rules, position, supermove, value), wanted, value)

    def test_what_can_not_be_done(self):
        rules, position, supermove = run_position("over", 2, 0, 0, [])
        for value in junk() + [[], [(("column", 0), ("column", 1))], [None]]:
            self.assertIs(is_played(rules, position, supermove, value), False)

    def test_errors(self):
        rules, position = (FOUR, InvalidRules, not_rules()), (LAID, InvalidPosition, junk() + [TABLE])
        supermove = ((0, 2, 2), InvalidSupermove, not_supermoves() + [(0, 2, 4), (3, 2, 1), (0, 1, 1), (1, 3, 2)])
        for function in [played, behind_supermove]:
            refuses(self, function, rules, position, supermove)
            stuck = (0, 2, 3)
            refused(self, Stuck, stuck, function, FOUR, LAID, stuck)
        refuses(self, is_played, rules, position, supermove, ([], None, junk()))


class Goals(unittest.TestCase):
    def test_all_goals(self):
        several = 0
        for rules, position in positions_with_runs(112, 120):
            for start, column in enumerate(position[0]):
                lengths = [many for begin, _, many in all_of(rules, position) if begin == start]
                for many in range(1, max(lengths, default=0) + 1):
                    wanted = []
                    for goal in range(len(position[0])):
                        if goal != start and plainly_sensible(rules, position, (start, goal, many)):
                            moves = fewest_moves(rules, position, (start, goal, many))
                            wanted += [(moves, goal)] if moves is not None else []
                    told = watched(self, goals_of, rules, position, start, many)
                    self.assertTrue(same(told, sorted(wanted)))
                    for empty in (True, False):
                        dear = {moves for moves, goal in told if (position[0][goal] == []) == empty}
                        self.assertLessEqual(len(dear), 1)
                    several += len(told) > 1
        self.assertGreater(several, 20)

    def test_edges(self):
        self.assertEqual(goals_of(FOUR, LAID, 3, 1), [(1, 1)])
        self.assertEqual(goals_of(FOUR, LAID, 0, 3), [])
        for kind in KINDS:
            rules, position, (start, _, many) = run_position(kind, 3, 2, 2, [])
            for moves, goal in goals_of(rules, position, start, many):
                self.assertIs(is_sensible(rules, position, (start, goal, many)), True)
                self.assertEqual(fewest_moves(rules, position, (start, goal, many)), moves)

    def test_errors(self):
        rules, position = (FOUR, InvalidRules, not_rules()), (LAID, InvalidPosition, junk() + [TABLE])
        no_column = [value for value in junk() if type(value) is not int or value not in (0, 1)] + [4, -1, 10 ** 29]
        no_length = [value for value in junk() if type(value) is not int or value != 1] + [0, 5, -1, 10 ** 29]
        refuses(self, goals_of, rules, position, (0, InvalidNumber, no_column), (1, InvalidNumber, no_length))
        for many in (0, 1):
            refused(self, InvalidNumber, many, goals_of, FOUR, LAID, 2, many)
        refused(self, InvalidNumber, 3, goals_of, FOUR, LAID, 1, 3)
