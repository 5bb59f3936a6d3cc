"""[60] to [64]: small decks, gone through sort by sort."""

import functools
import itertools
import random
import time
import unittest

from supermoves.alike import are_alike
from supermoves.errors import InvalidPosition, InvalidRules, TooMany
from supermoves.moves import after, can_go, possible_moves
from supermoves.positions import dealt, is_position
from supermoves.search import (by_distance, closed_set, deepest, game_between, good_moves, how_many_come,
                               is_closed_set, is_lost, is_shortest_game, least_moves, losing_moves, lost_game,
                               moves_between, shortest_game, won_and_lost)
from tests.helpers import BUILDS, all_cards, changes, edge_positions, junk, places_in, refuses, same, watched
from tests.test_cards import not_rules
from tests.test_moves import plain_behind, plainly_possible
from tests.test_positions import SMALL, TABLE, not_positions

ONE_ARGUMENT = [how_many_come, by_distance, least_moves, shortest_game, closed_set, good_moves, losing_moves, is_lost,
                won_and_lost, deepest, lost_game]
STUCK = ((3, 1, "same"), ([[(1, 0), (3, 0)], [(2, 0)]], [], [0]))
DEAL = ((4, 2, "other"), ([[(4, 0), (1, 0), (1, 1), (3, 1)], [(2, 0), (3, 0), (2, 1), (4, 1)]], [None], [0, 0]))

# From these just 1,000 and 1,001 sorts come.
THOUSAND = [
    ((4, 2, "same"), ([[(2, 1), (2, 0)], [], [(4, 0), (3, 1), (1, 0), (4, 1), (3, 0)], [], []], [None, None], [0, 1])),
    ((5, 2, "same"), ([[(2, 0), (5, 0)], [(1, 0), (4, 1)], [(3, 0)], [(4, 0), (5, 1)]], [None, None], [0, 3])),
]
ONE_MORE = [
    ((3, 4, "same"), ([[(1, 0)], [(3, 2), (1, 1), (3, 0)], [(2, 1)], [(2, 0), (3, 1), (3, 3)]], [None], [0, 0, 2, 2])),
    ((4, 2, "same"), ([[(1, 0)], [(2, 0), (4, 1)], [(2, 1), (1, 1), (3, 1), (3, 0), (4, 0)]], [None, None], [0, 0])),
]
FREECELL = ((13, 4, "other"), dealt((13, 4, "other"), all_cards((13, 4, "other")), 8, 4))


def plain_sort(position):
    columns, cells, homes = position
    return repr((sorted(columns), sorted([card for card in cells if card]), len(cells), homes))


def plainly_behind_all(rules, position):
    """The positions behind all possible moves, in order of the moves."""
    places = places_in(position)
    return [((start, goal), plain_behind(position, (start, goal))) for start in places for goal in places
            if start[0] != "home" and plainly_possible(rules, position, (start, goal))]


def plain_graph(rules, position, most):
    """For each sort that comes: its distance, a position, and the sorts behind its moves; None if there are more."""
    told = {plain_sort(position): [0, position, None]}
    layer, distance = [position], 0
    while layer:
        distance += 1
        found = []
        for here in layer:
            ahead = {plain_sort(behind): behind for _, behind in plainly_behind_all(rules, here)}
            told[plain_sort(here)][2] = list(ahead)
            for sort, behind in ahead.items():
                if sort not in told:
                    told[sort] = [distance, behind, None]
                    found.append(behind)
                    if len(told) > most:
                        return None
        layer = found
    return told


def plain_left(rules, graph):
    """For each sort the least number of moves behind which all is won, if there is any."""
    left = {sort: 0 for sort, (_, position, _) in graph.items() if position[2] == [rules[0]] * rules[1]}
    changed = True
    while changed:
        changed = False
        for sort, (_, _, ahead) in graph.items():
            moves = 1 + min([left[other] for other in ahead if other in left], default=10 ** 6)
            if sort not in left and moves < 10 ** 6 or moves < left.get(sort, 0):
                left[sort] = moves
                changed = True
    return left


def plain_least(rules, position, most=1000):
    """The least number of moves behind which all is won, None if there is none."""
    return plain_left(rules, plain_graph(rules, position, most)).get(plain_sort(position))


@functools.lru_cache(maxsize=None)
def few_sorts(seed, number, most):
    """Rules and positions from which few sorts come, many of them with lost ones, the same ones each time."""
    chance = random.Random(seed)
    found = []
    while len(found) < number:
        ranks, suits = chance.choice([1, 2, 3, 4, 5]), chance.randint(1, 4)
        rules = (ranks, suits, chance.choice(BUILDS))
        homes = [ranks] * suits
        left = []
        for _ in range(chance.randint(2, 12)):
            suit = chance.randrange(suits)
            if homes[suit] > 0:
                left.append((homes[suit], suit))
                homes[suit] -= 1
        chance.shuffle(left)
        columns, cells = chance.choice([1, 2, 2, 3, 4]), chance.choice([0, 0, 1, 1, 2])
        position = ([left[at::columns] for at in range(columns)], [None] * cells, homes)
        graph = plain_graph(rules, position, most)
        if graph is None:
            continue
        # Most deals that are so small can be won, or not, whatever is done: few of these are enough.
        left = plain_left(rules, graph)
        if chance.random() < (0.1 if len(left) == len(graph) else 1 if left else 0.3):
            found.append((rules, position))
    return found


def edges():
    """Rules and positions at the edges: won, stuck, one column, no cells, one suit, 8 suits."""
    found = [row for row in edge_positions() if plain_graph(*row, 300) is not None]
    aces = ((1, 8, "any"), ([[(1, 3), (1, 0)], [(1, 7)]], [None], [0, 1, 1, 0, 1, 1, 1, 0]))
    return found + [STUCK, DEAL, aces]


def all_told(number, seed=140):
    """Rules, a position, its graph and what is left from each sort."""
    for rules, position in edges() + few_sorts(seed, number, 150):
        graph = plain_graph(rules, position, 1000)
        yield rules, position, graph, plain_left(rules, graph)


def is_plainly_closed(rules, position, value):
    """As [62] tells it, of a list of positions."""
    sorts = [plain_sort(one) for one in value]
    return (plain_sort(position) in sorts and all(one[2] != [rules[0]] * rules[1] for one in value)
            and all(plain_sort(behind) in sorts for one in value for _, behind in plainly_behind_all(rules, one)))


class Coming(unittest.TestCase):
    def test_how_many_come(self):
        for rules, position, graph, _ in all_told(120):
            self.assertEqual(watched(self, how_many_come, rules, position), len(graph))
            distances = [distance for distance, _, _ in graph.values()]
            self.assertTrue(same(watched(self, by_distance, rules, position),
                                 [distances.count(moves) for moves in range(max(distances) + 1)]))

    def test_between(self):
        for rules, position, graph, _ in all_told(60, 141):
            for distance, other, _ in list(graph.values())[::1 + len(graph) // 12]:
                turned = (other[0][::-1], other[1][::-1], other[2])
                self.assertEqual(watched(self, moves_between, rules, position, turned), distance)
                game = watched(self, game_between, rules, position, turned)
                self.assertEqual(len(game), distance)
                self.assertTrue(can_go(rules, position, game))
                self.assertTrue(are_alike(rules, after(rules, position, game), other))

    def test_what_does_not_come(self):
        none = 0
        for rules, position in few_sorts(142, 60, 150):
            columns, cells, homes = position
            others = [(columns + [[]], cells, homes), (columns, cells + [None], homes),
                      (columns, [None] + cells, homes), ([column[::-1] for column in columns], cells, homes),
                      ([sum(columns, [])] + [[] for _ in columns[1:]], cells, homes)]
            graph = plain_graph(rules, position, 1000)
            for other in others:
                wanted = graph.get(plain_sort(other), [None])[0]
                wanted = wanted if len(other[0]) == len(columns) else None
                self.assertEqual(moves_between(rules, position, other), wanted)
                self.assertIs(game_between(rules, position, other) is None, wanted is None)
                none += wanted is None
        self.assertGreater(none, 100)
        rules, position = STUCK
        self.assertIsNone(watched(self, moves_between, rules, position, ([[], []], [], [3])))
        self.assertIsNone(watched(self, game_between, rules, position, ([[], []], [], [3])))
        self.assertEqual(game_between(rules, position, ([[(2, 0)], [(1, 0), (3, 0)]], [], [0])), [])


class Winning(unittest.TestCase):
    def test_shortest_games(self):
        seen = {True: 0, False: 0}
        for rules, position, _, left in all_told(120):
            moves = left.get(plain_sort(position))
            self.assertEqual(watched(self, least_moves, rules, position), moves)
            self.assertIs(watched(self, is_lost, rules, position), moves is None)
            game = watched(self, shortest_game, rules, position)
            seen[moves is None] += 1
            if moves is None:
                self.assertIsNone(game)
                self.assertIs(is_shortest_game(rules, position, []), False)
                continue
            self.assertEqual(len(game), moves)
            self.assertTrue(can_go(rules, position, game))
            self.assertEqual(after(rules, position, game)[2], [rules[0]] * rules[1])
            self.assertIs(watched(self, is_shortest_game, rules, position, game), True)
        self.assertGreater(min(seen.values()), 20)

    def test_is_shortest_game(self):
        good = 0
        for rules, position in few_sorts(143, 7, 50) + [DEAL, (SMALL, TABLE)]:
            least = plain_least(rules, position)
            game = shortest_game(rules, position)
            for value in junk() + ([] if game is None else changes(game) + [game[:-1], game + game]):
                wanted = type(value) is list and least is not None and len(value) == least
                if wanted:
                    wanted = can_go(rules, position, value) and (
                        after(rules, position, value)[2] == [rules[0]] * rules[1])
                self.assertIs(is_shortest_game(rules, position, value), wanted)
                good += wanted
        self.assertGreater(good, 2)
        won = ([[], []], [None], [3, 3])
        for value in junk():
            self.assertIs(watched(self, is_shortest_game, SMALL, won, value), type(value) is list and value == [])

    def test_longer_games_that_win(self):
        seen = 0
        for rules, position in few_sorts(149, 25, 100) + [DEAL, (SMALL, TABLE)]:
            game = shortest_game(rules, position)
            for move, behind in plainly_behind_all(rules, position):
                back = (move[1], move[0])
                if game is not None and plainly_possible(rules, behind, back):
                    self.assertEqual(after(rules, position, [move, back] + game)[2], [rules[0]] * rules[1])
                    self.assertIs(is_shortest_game(rules, position, [move, back] + game), False)
                    seen += 1
        self.assertGreater(seen, 20)

    def test_all_shortest_games(self):
        for rules, position in few_sorts(144, 20, 40):
            least = plain_least(rules, position)
            if least is not None and least < 6:
                games = [([], position)]
                for _ in range(least):
                    games = [(game + [move], behind) for game, here in games
                             for move, behind in plainly_behind_all(rules, here)][:300]
                for game, here in games:
                    self.assertIs(is_shortest_game(rules, position, game), here[2] == [rules[0]] * rules[1])

    def test_first_moves(self):
        seen = {"good": 0, "losing": 0, "neither": 0}
        for rules, position, _, left in all_told(120, 145):
            moves = left.get(plain_sort(position))
            told = [(move, left.get(plain_sort(behind))) for move, behind in plainly_behind_all(rules, position)]
            good = [move for move, then in told if moves is not None and then == moves - 1]
            losing = [move for move, then in told if moves is not None and then is None]
            self.assertTrue(same(watched(self, good_moves, rules, position), good))
            self.assertTrue(same(watched(self, losing_moves, rules, position), losing))
            self.assertTrue(all(then is None or moves is not None and then >= moves - 1 for _, then in told))
            seen["good"] += len(good)
            seen["losing"] += len(losing)
            seen["neither"] += len(told) - len(good) - len(losing)
        self.assertGreater(min(seen.values()), 10)

    def test_what_can_be_won(self):
        seen = {True: 0, False: 0}
        for rules, position, graph, left in all_told(120, 146):
            self.assertEqual(watched(self, won_and_lost, rules, position), (len(left), len(graph) - len(left)))
            self.assertEqual(watched(self, deepest, rules, position), max(left.values(), default=None))
            lost = [graph[sort][0] for sort in graph if sort not in left]
            game = watched(self, lost_game, rules, position)
            seen[bool(lost)] += 1
            if not lost:
                self.assertIsNone(game)
                continue
            self.assertEqual(len(game), min(lost))
            self.assertTrue(can_go(rules, position, game))
            self.assertNotIn(plain_sort(after(rules, position, game)), left)
        self.assertGreater(min(seen.values()), 20)

    def test_edges(self):
        for build in BUILDS:
            won = ((3, 8, build), ([[], []], [None], [3] * 8))
            self.assertEqual([how_many_come(*won), by_distance(*won), least_moves(*won), shortest_game(*won)],
                             [1, [1], 0, []])
            self.assertEqual([good_moves(*won), losing_moves(*won), is_lost(*won), won_and_lost(*won), deepest(*won),
                              lost_game(*won), closed_set(*won)], [[], [], False, (1, 0), 0, None, None])
            dead = ((2, 1, build), ([[(1, 0), (2, 0)]], [], [0]))
            self.assertEqual([how_many_come(*dead), by_distance(*dead), least_moves(*dead), shortest_game(*dead)],
                             [1, [1], None, None])
            self.assertEqual([good_moves(*dead), losing_moves(*dead), is_lost(*dead), won_and_lost(*dead),
                              deepest(*dead), lost_game(*dead)], [[], [], True, (0, 1), None, []])
            self.assertEqual(closed_set(*dead), [dead[1]])

    def test_alike_positions(self):
        for rules, position in few_sorts(147, 40, 100):
            other = (position[0][::-1], position[1][::-1], position[2])
            for function in [how_many_come, by_distance, least_moves, won_and_lost, deepest]:
                self.assertEqual(function(rules, position), function(rules, other))


class ClosedSets(unittest.TestCase):
    def test_closed_sets(self):
        seen = {True: 0, False: 0}
        for rules, position, graph, left in all_told(120, 148):
            told = watched(self, closed_set, rules, position)
            lost = plain_sort(position) not in left
            seen[lost] += 1
            self.assertIs(told is not None, lost)
            if told is None:
                self.assertIs(is_closed_set(rules, position, [here for _, here, _ in graph.values()]), False)
                continue
            self.assertTrue(all(is_position(rules, one) for one in told))
            self.assertEqual(len({plain_sort(one) for one in told}), len(told))
            self.assertTrue(is_plainly_closed(rules, position, told))
            self.assertIs(watched(self, is_closed_set, rules, position, told), True)
            self.assertIs(is_closed_set(rules, position, told + told[::-1]), True)
            for at in range(min(5, len(told))):
                less = told[:at] + told[at + 1:]
                self.assertIs(is_closed_set(rules, position, less), is_plainly_closed(rules, position, less))
        self.assertGreater(min(seen.values()), 20)

    def test_what_is_none(self):
        rules, position = STUCK
        good = closed_set(rules, position)
        for value in junk() + changes(good):
            wanted = type(value) is list and all(is_position(rules, one) for one in value)
            wanted = wanted and is_plainly_closed(rules, position, value)
            self.assertIs(is_closed_set(rules, position, value), wanted, f"{value}")
        self.assertIs(watched(self, is_closed_set, rules, position, []), False)

    def test_with_others_and_with_alike_ones(self):
        rules, position = STUCK
        good = closed_set(rules, position)
        turned = [(columns[::-1], cells, homes) for columns, cells, homes in good]
        self.assertIs(is_closed_set(rules, position, turned), True)
        self.assertIs(is_closed_set(rules, position, good + turned), True)
        alone = ([[(1, 0), (3, 0), (2, 0)]], [], [0])
        self.assertIs(is_closed_set(rules, position, good + [alone]), True)
        self.assertIs(is_closed_set(rules, position, [alone]), False)
        self.assertIs(is_closed_set(rules, alone, [alone]), True)
        self.assertIs(is_closed_set(rules, position, good + [([[], []], [], [3])]), False)
        self.assertIs(is_closed_set(rules, position, good + [([[(3, 0), (2, 0), (1, 0)], []], [], [0])]), False)
        wider = [(columns, [None], homes) for columns, _, homes in good]
        self.assertIs(is_closed_set(rules, position, wider), False)
        self.assertIs(is_closed_set((2, 1, "any"), ([[(2, 0)]], [], [1]), [([[(2, 0)]], [], [1])]), False)

    def test_no_bound_of_sorts(self):
        rules, position = FREECELL
        self.assertIs(is_closed_set(rules, position, [position]), False)
        self.assertIs(is_closed_set(rules, position, []), False)


class TooManySorts(unittest.TestCase):
    def calls(self, rules, position):
        return ([functools.partial(function, rules, position) for function in ONE_ARGUMENT]
                + [functools.partial(function, rules, position, position) for function in (moves_between, game_between)]
                + [functools.partial(is_shortest_game, rules, position, value) for value in ([], None, "x")])

    def test_just_a_thousand(self):
        for rules, position in THOUSAND:
            self.assertEqual(len(plain_graph(rules, position, 2000)), 1000)
            self.assertEqual(how_many_come(rules, position), 1000)
            self.assertEqual(least_moves(rules, position), plain_least(rules, position))
            for call in self.calls(rules, position):
                call()

    def test_more(self):
        great = ((20, 8, "any"), dealt((20, 8, "any"), all_cards((20, 8, "any")), 10, 7))
        for rules, position in ONE_MORE + [FREECELL, great]:
            if rules[0] < 13:
                self.assertEqual(len(plain_graph(rules, position, 2000)), 1001)
            for call in self.calls(rules, position):
                with self.assertRaises(TooMany) as caught:
                    call()
                self.assertTrue(same(caught.exception.value, 1001))

    def test_behind_the_errors_of_all_parameters(self):
        rules, position = ONE_MORE[0]
        first = (rules, InvalidRules, not_rules())
        for function in [moves_between, game_between]:
            for value in junk() + [TABLE]:
                with self.assertRaises(InvalidPosition) as caught:
                    function(rules, position, value)
                self.assertIs(caught.exception.value, value)
        for function in ONE_ARGUMENT:
            for value in first[2]:
                with self.assertRaises(InvalidRules):
                    function(value, position)

    def test_errors(self):
        rules, position = (SMALL, InvalidRules, not_rules()), (TABLE, InvalidPosition, not_positions())
        for function in ONE_ARGUMENT:
            refuses(self, function, rules, position)
        for function in [moves_between, game_between]:
            refuses(self, function, rules, position, position)
        for function in [is_shortest_game, is_closed_set]:
            refuses(self, function, rules, position, ([], None, []))

    def test_up_to_the_limits(self):
        begin = time.perf_counter()
        wide = ((2, 8, "same"), ([[(2, 3), (2, 6)], [(2, 5), (2, 2)], [(2, 1), (1, 6)]] + [[] for _ in range(7)],
                                 [None] * 5, [2, 1, 1, 1, 2, 1, 0, 2]))
        for rules, position in THOUSAND + [wide]:
            for call in self.calls(rules, position):
                call()
        rules, position = STUCK
        good = closed_set(rules, position)
        self.assertIs(is_closed_set(rules, position, good * 500), True)
        full = ((20, 8, "same"), ([[(rank, suit) for rank in range(1, 21)] for suit in range(8)], [], [0] * 8))
        self.assertIs(is_closed_set(*full, [full[1]] * 1000), True)
        self.assertLess(time.perf_counter() - begin, 40)
