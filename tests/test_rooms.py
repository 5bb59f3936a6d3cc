"""[36], [37], [40] and [41]: supermoves in positions."""

import itertools
import random
import time
import unittest

from supermoves.capacity import can_pass
from supermoves.errors import InvalidPosition, InvalidRules, InvalidSupermove, Stuck
from supermoves.going import behind_supermove
from supermoves.positions import is_position, is_supermove
from supermoves.rooms import all_supermoves, back_of, fewest_moves, is_sensible, lacking, room_of, spoilers
from supermoves.tops import fewest_with
from tests.helpers import (BUILDS, KINDS, edge_positions, junk, plainly_lies_on, refused, refuses, same,
                           some_position, some_positions, watched)
from tests.test_bars import lots_of
from tests.test_capacity import plainly_goes
from tests.test_cards import not_rules
from tests.test_moves import plain_behind, plain_card, plainly_possible
from tests.test_positions import SMALL, TABLE, not_positions, plainly_run

FOUR = (4, 2, "other")
LAID = ([[(4, 0), (3, 1), (2, 0), (1, 1)], [(4, 1), (3, 0)], [], [(2, 1)]], [None, (1, 0)], [0, 0])


def run_position(kind, many, cells, empty, tops, back=True):
    """Rules, and a position of them with a supermove of just this kind and room.

    The run is the suit 0 from rank `many` on, in the first column; the goal is the second one. Without `back` the
    card beneath the run does not take it.
    """
    rules = (many + 2, 8, "any")
    above = [(many + 2, 0), (many + 1, 0)] if back else [(many + 1, 0), (many + 2, 0)]
    run = [(rank, 0) for rank in range(many, 0, -1)]
    goal = [] if kind == "into" else [(many + 2, 1), (many + 1, 1)]
    columns = [run, above + goal] if kind == "whole" else [above + run, goal]
    columns += [[] for _ in range(empty - (kind == "into"))]
    homes = [0, many + 2 if kind == "into" else many] + [many + 2] * 6
    for suit, top in enumerate(tops):
        homes[2 + suit] = top
        columns.append([(rank, 2 + suit) for rank in range(many + 2, top, -1)])
    return rules, (columns, [None] * cells, homes), (0, 1, many)


def run_positions(most_many, most_cells, most_empty):
    """Rules, a position and a supermove, for all small rooms, and what kind and room they are."""
    found = []
    for kind, cells, empty in itertools.product(KINDS, range(most_cells + 1), range(most_empty + 1)):
        for many in range(1, most_many + 1):
            for tops in lots_of(range(1, many)):
                if kind != "into" or empty > 0:
                    found.append((run_position(kind, many, cells, empty, tops), kind, (cells, empty, tops)))
    return found


def plainly_sensible(rules, position, supermove):
    """As [36] tells it."""
    start, goal, many = supermove
    columns = position[0]
    card = columns[start][len(columns[start]) - many]
    if columns[goal] == []:
        return columns[start] != columns[start][-many:]
    return plainly_lies_on(rules, card, columns[goal][-1])


def plain_room(rules, position, supermove):
    """As [36] tells it."""
    start, goal, many = supermove
    columns, cells, _ = position
    kind = "into" if columns[goal] == [] else "whole" if len(columns[start]) == many else "over"
    tops = []
    for number in range(1, many):
        card = columns[start][::-1][number - 1]
        for at, column in enumerate(columns):
            if at != start and at != goal and column and plainly_lies_on(rules, card, column[-1]):
                tops.append(number)
    return kind, (cells.count(None), columns.count([]), sorted(set(tops)))


def plain_end(position, supermove):
    start, goal, many = supermove
    columns = [list(column) for column in position[0]]
    columns[goal] += columns[start][-many:]
    columns[start] = columns[start][:-many]
    return (columns, list(position[1]), list(position[2]))


def own_moves(rules, position, supermove, here):
    """The moves of the run's cards alone that [37] allows in a position here, and what is behind them."""
    start, _, many = supermove
    run, beneath = position[0][start][-many:], position[0][start][:-many][-1:]
    places = [("cell", at) for at in range(len(here[1]))] + [("column", at) for at in range(len(here[0]))]
    found = []
    for begin, end in itertools.permutations(places, 2):
        if plain_card(here, begin) not in run or not plainly_possible(rules, here, (begin, end)):
            continue
        if plain_card(here, end) is None or [plain_card(here, end)] != beneath:
            found.append(((begin, end), plain_behind(here, (begin, end))))
    return found


def searched_moves(rules, position, supermove):
    """The fewest moves, None if it can't be done, by going through single moves of the run's cards."""
    end = plain_end(position, supermove)
    seen, layer, moves = {repr(position)}, [position], 0
    while layer:
        if end in layer:
            return moves
        found = {repr(behind): behind for here in layer for _, behind in own_moves(rules, position, supermove, here)}
        layer = [found[key] for key in found if key not in seen]
        seen.update(found)
        moves += 1
    return None


def all_of(rules, position):
    """All supermoves of a position."""
    found = []
    for start, goal in itertools.permutations(range(len(position[0])), 2):
        found += [(start, goal, many) for many in range(1, plainly_run(rules, position[0][start]) + 1)]
    return found


def positions_with_runs(seed, number):
    """Rules and positions of them, most of them with runs and some room, the same ones each time."""
    chance = random.Random(seed)
    found = [(SMALL, TABLE), (FOUR, LAID)]
    for _ in range(number):
        rules = (chance.randint(2, 5), chance.randint(1, 3), chance.choice(BUILDS))
        found.append((rules, some_position(chance, rules, chance.randint(2, 5), chance.randint(0, 2), True)))
    return found


def great_positions():
    """Rules and positions at the limits: 10 columns, runs of up to 20 cards, 7 cells."""
    found = []
    for suits, empty, cells in [(1, 9, 7), (1, 8, 0), (3, 4, 2), (4, 2, 7), (8, 2, 7), (8, 0, 7)]:
        tops = [20] * suits + [2, 5, 9, 12, 14, 17, 19, 3][:8 - suits]
        columns = [[(rank, suit) for rank in range(20, 0, -1)] for suit in range(suits)]
        homes = [0] * suits
        for suit in range(suits, 8):
            if len(columns) < 10 - empty:
                homes.append(tops[suit] - 1)
                columns.append([(rank, suit) for rank in range(20, tops[suit] - 1, -1)])
            else:
                homes.append(20)
        columns += [[] for _ in range(10 - len(columns))]
        found += [((20, 8, build), (columns, [None] * cells, homes)) for build in BUILDS]
    return found


def not_supermoves():
    """What is no supermove of LAID."""
    return junk() + [(0, 0, 1), (0, 4, 1), (4, 0, 1), (-1, 0, 1), (0, 2, 5), (0, 2, 0), (2, 0, 1), (0, 2, True),
                     (False, 2, 1), [0, 2, 1], (0, 2), (0, 2, 1, 1), ("0", 2, 1), (0, None, 1), (0, 2, 10 ** 29)]


class Sensible(unittest.TestCase):
    def test_all_supermoves(self):
        seen = set()
        found = [told[:2] for told, _, _ in run_positions(3, 1, 1)]
        for rules, position in positions_with_runs(100, 80) + edge_positions() + some_positions(30, 101) + found:
            for supermove in all_of(rules, position):
                wanted = plainly_sensible(rules, position, supermove)
                self.assertIs(is_sensible(rules, position, supermove), wanted)
                if wanted:
                    kind, room = plain_room(rules, position, supermove)
                    self.assertTrue(same(room_of(rules, position, supermove), (kind, room)))
                    seen.add((kind, room[2] != []))
                else:
                    refused(self, InvalidSupermove, supermove, room_of, rules, position, supermove)
        self.assertEqual(len(seen), 6)

    def test_nothing_is_shared(self):
        for (rules, position, supermove), kind, room in run_positions(3, 1, 1):
            self.assertTrue(is_position(rules, position))
            self.assertIs(watched(self, is_sensible, rules, position, supermove), True)
            self.assertTrue(same(watched(self, room_of, rules, position, supermove), (kind, room)))
            watched(self, fewest_moves, rules, position, supermove)
            watched(self, lacking, rules, position, supermove)
            if can_pass(kind, room, supermove[2]):
                watched(self, spoilers, rules, position, supermove)
                watched(self, back_of, rules, position, supermove)
        watched(self, all_supermoves, FOUR, LAID)

    def test_edges(self):
        # All of a column into an empty one, and a run that could go on with one card more.
        self.assertIs(is_sensible(FOUR, LAID, (3, 2, 1)), False)
        self.assertIs(is_sensible(FOUR, LAID, (0, 2, 4)), False)
        self.assertIs(is_sensible(FOUR, LAID, (0, 2, 3)), True)
        self.assertIs(is_sensible(FOUR, LAID, (3, 1, 1)), True)
        # Neither the start's nor the goal's own top helps, and two tops for one card are one helping top.
        rules, position = (4, 4, "any"), ([[(4, 0), (3, 0), (2, 0)], [(4, 1)], [(4, 2), (3, 2)], [(4, 3), (3, 3)]],
                                          [None], [1, 3, 2, 2])
        self.assertEqual(room_of(rules, position, (0, 1, 2)), ("over", (1, 0, [1])))
        self.assertEqual(room_of(rules, position, (0, 2, 1)), ("over", (1, 0, [])))

    def test_a_top_for_the_last_card_does_not_help(self):
        rules, position, supermove = run_position("over", 3, 0, 0, [1, 2])
        position[0].append([(4, 7)])
        position[2][7] = 3
        rules, position[0][-1] = (5, 8, "any"), [(5, 7), (4, 7)]
        self.assertEqual(room_of(rules, position, supermove), ("over", (0, 0, [1, 2])))

    def test_errors(self):
        rules, position = (FOUR, InvalidRules, not_rules()), (LAID, InvalidPosition, junk() + [TABLE])
        refuses(self, is_sensible, rules, position, ((0, 2, 4), InvalidSupermove, not_supermoves()))
        senseless = [(0, 2, 4), (3, 2, 1), (0, 1, 1), (1, 3, 2)]
        for function in [room_of, fewest_moves, lacking, spoilers, back_of]:
            refuses(self, function, rules, position, ((0, 2, 2), InvalidSupermove, not_supermoves() + senseless))
        for function in [spoilers, back_of]:
            stuck = (0, 2, 3)
            refused(self, Stuck, stuck, function, FOUR, LAID, stuck)
        refuses(self, all_supermoves, rules, position)
        small = (TABLE, InvalidPosition, not_positions())
        refuses(self, all_supermoves, (SMALL, InvalidRules, not_rules()), small)


class HowFewMoves(unittest.TestCase):
    def test_a_search_through_single_moves(self):
        for rules, position in positions_with_runs(102, 200):
            wanted = []
            for supermove in all_of(rules, position):
                if plainly_sensible(rules, position, supermove):
                    moves = searched_moves(rules, position, supermove)
                    self.assertEqual(fewest_moves(rules, position, supermove), moves, f"{rules} {position} {supermove}")
                    wanted += [(supermove, moves)] if moves is not None else []
            self.assertTrue(same(all_supermoves(rules, position), sorted(wanted)))

    def test_a_search_in_all_small_rooms(self):
        for (rules, position, supermove), kind, room in run_positions(4, 1, 2):
            moves = searched_moves(rules, position, supermove)
            self.assertEqual(fewest_moves(rules, position, supermove), moves, f"{kind} {room} {supermove}")
            self.assertEqual(fewest_with(kind, room, supermove[2]), moves)

    def test_a_supermove_that_can_not_be_done(self):
        rules, position, supermove = run_position("over", 2, 0, 0, [])
        self.assertIsNone(fewest_moves(rules, position, supermove))
        self.assertNotIn(supermove, [told for told, _ in all_supermoves(rules, position)])

    def test_the_order_of_columns_does_not_count(self):
        chance = random.Random(103)
        for rules, position in positions_with_runs(104, 40):
            order = list(range(len(position[0])))
            chance.shuffle(order)
            other = ([position[0][at] for at in order], position[1][::-1], position[2])
            told = all_supermoves(rules, other)
            self.assertEqual(sorted(((order[start], order[goal], many), moves) for (start, goal, many), moves in told),
                             all_supermoves(rules, position))

    def test_up_to_the_limits(self):
        begin = time.perf_counter()
        most = 0
        for rules, position in great_positions():
            self.assertTrue(is_position(rules, position))
            told = all_supermoves(rules, position)
            for supermove, moves in told[::7]:
                self.assertEqual(fewest_moves(rules, position, supermove), moves)
            most = max([most] + [supermove[2] for supermove, _ in told])
        self.assertEqual(most, 19)
        self.assertLess(time.perf_counter() - begin, 20)


class Lacking(unittest.TestCase):
    def positions(self):
        found = [told for told, _, _ in run_positions(4, 1, 2)]
        for rules, position in positions_with_runs(105, 60):
            found += [(rules, position, supermove) for supermove in all_of(rules, position)
                      if plainly_sensible(rules, position, supermove)]
        return found

    def test_lacking(self):
        for rules, position, supermove in self.positions():
            kind, (cells, empty, tops) = plain_room(rules, position, supermove)
            many = supermove[2]
            wanted = (min(more for more in range(30) if plainly_goes(kind, (cells + more, empty, tops), many)),
                      min(more for more in range(30) if plainly_goes(kind, (cells, empty + more, tops), many)))
            self.assertTrue(same(lacking(rules, position, supermove), wanted))
            self.assertIs(wanted == (0, 0), fewest_moves(rules, position, supermove) is not None)

    def test_spoilers(self):
        seen = {"cell": 0, "column": 0, "top": 0}
        for rules, position, supermove in self.positions():
            kind, (cells, empty, tops) = plain_room(rules, position, supermove)
            start, goal, many = supermove
            if not plainly_goes(kind, (cells, empty, tops), many):
                refused(self, Stuck, supermove, spoilers, rules, position, supermove)
                continue
            wanted = []
            for at, card in enumerate(position[1]):
                if card is None and not plainly_goes(kind, (cells - 1, empty, tops), many):
                    wanted.append(("cell", at))
                    seen["cell"] += 1
            for at, column in enumerate(position[0]):
                if at in (start, goal):
                    continue
                # A column that is covered by a card that takes nothing, or filled by it, is as good as none.
                left = (position[0][:at] + [[(rules[0] + 5, 0)]] + position[0][at + 1:], position[1], position[2])
                if not plainly_goes(*plain_room(rules, left, supermove), many):
                    wanted.append(("column", at))
                    seen["column" if column == [] else "top"] += 1
            self.assertTrue(same(spoilers(rules, position, supermove), wanted), f"{rules} {position} {supermove}")
        self.assertGreater(min(seen.values()), 10)

    def test_back(self):
        seen = {None: 0, "over": 0, "into": 0, "whole": 0}
        found = self.positions() + [run_position(kind, many, 1, 1, [], False) for kind in KINDS for many in (1, 2)]
        for rules, position, supermove in found:
            start, goal, many = supermove
            moves = fewest_moves(rules, position, supermove)
            if moves is None:
                refused(self, Stuck, supermove, back_of, rules, position, supermove)
                continue
            behind, back = plain_end(position, supermove), (goal, start, many)
            self.assertTrue(is_supermove(rules, behind, back))
            sensible = plainly_sensible(rules, behind, back)
            told = back_of(rules, position, supermove)
            self.assertTrue(same(told, back if sensible else None))
            seen[room_of(rules, behind, back)[0] if sensible else None] += 1
            if sensible:
                self.assertEqual(behind_supermove(rules, position, supermove), behind)
                self.assertEqual(fewest_moves(rules, behind, back), moves)
                self.assertEqual(back_of(rules, behind, back), supermove)
        self.assertGreater(min(seen.values()), 3)

    def test_whole_goes_there_and_into_comes_back(self):
        rules, position, supermove = run_position("whole", 6, 1, 1, [3])
        self.assertEqual(room_of(rules, position, supermove), ("whole", (1, 1, [3])))
        behind = behind_supermove(rules, position, supermove)
        self.assertEqual(room_of(rules, behind, (1, 0, 6)), ("into", (1, 2, [3])))
        self.assertEqual([fewest_moves(rules, position, supermove), fewest_moves(rules, behind, (1, 0, 6))], [15, 15])
