"""The examples that the document prints, line by line."""

import unittest

from tests.helpers import play_examples

TEXTS = r'''
from supermoves.cards import deck, is_card, is_rules, lies_on, takers
from supermoves.positions import card_at, dealt, is_kind, is_move, is_place, is_position, is_room, is_supermove, is_won, place_of, runs
from supermoves.texts import card_of_text, move_of_text, position_of_text, text_of_card, text_of_move, text_of_position
free, small = (13, 4, "other"), (3, 2, "other")
[is_rules(free), is_rules((0, 4, "any")), is_card(free, (13, 3)), is_card(free, (14, 0)), lies_on(free, (5, 1), (6, 2)), lies_on(free, (5, 1), (6, 3)), takers(free, (5, 1)), takers(free, (13, 0))]
# [True, False, True, False, True, False, [(6, 0), (6, 2)], []]
[len(deck(free)), deck(small), text_of_card(free, (10, 1)), card_of_text(free, "AS")]
# [52, [(1, 0), (1, 1), (2, 0), (2, 1), (3, 0), (3, 1)], "TD", (1, 2)]
table = ([[(3, 0), (2, 1)], [(3, 1)], []], [(2, 0), None], [1, 1])
[is_position(small, table), is_position(small, (table[0], [None, None], [1, 1])), runs(small, table), is_won(small, table), card_at(small, table, ("column", 0)), card_at(small, table, ("home", 1))]
# [True, False, [2, 1, 0], False, (2, 1), (1, 1)]
[place_of(small, table, (3, 0)), place_of(small, table, (2, 0)), place_of(small, table, (1, 0)), card_at(small, table, ("column", 2)), is_place(small, table, ("cell", 2)), is_move(small, table, (("home", 0), ("cell", 1)))]
# [("column", 0), ("cell", 0), ("home", 0), None, False, False]
runs((5, 2, "other"), ([[(5, 0), (3, 1), (2, 0)], [(5, 1), (4, 0), (4, 1), (3, 0)]], [], [1, 2]))
# [2, 2]
[is_supermove(small, table, (0, 2, 2)), is_supermove(small, table, (1, 0, 2)), is_kind("over"), is_room((1, 0, [1, 4])), is_room((1, 0, [4, 1])), dealt(small, deck(small), 2, 1)]
# [True, False, True, True, False, ([[(1, 0), (2, 0), (3, 0)], [(1, 1), (2, 1), (3, 1)]], [None], [0, 0])]
[text_of_position(small, table), position_of_text(small, text_of_position(small, table)) == table]
# ["1: 3C 2D\n2: 3D\n3:\ncells: 2C -\nhomes: 1 1\n", True]
[text_of_move(small, table, (("cell", 0), ("column", 1))), move_of_text(small, table, "1h"), move_of_text(small, table, "ah"), move_of_text(small, table, "3b")]
# ["a2", (("column", 0), ("home", 1)), (("cell", 0), ("home", 0)), (("column", 2), ("cell", 1))]
'''

MOVES = r'''
from supermoves.alike import are_alike, carried, how_many_alike, least_alike, order_to
from supermoves.moves import after, behind, can_go, goes_back, is_possible, possible_moves
small, table = (3, 2, "other"), ([[(3, 0), (2, 1)], [(3, 1)], []], [(2, 0), None], [1, 1])
possible_moves(small, table)[:4]
# [(("cell", 0), ("cell", 1)), (("cell", 0), ("column", 1)), (("cell", 0), ("column", 2)), (("cell", 0), ("home", 0))]
[len(possible_moves(small, table)), is_possible(small, table, (("column", 1), ("column", 0))), behind(small, table, (("cell", 0), ("column", 1)))]
# [9, False, ([[(3, 0), (2, 1)], [(3, 1), (2, 0)], []], [None, None], [1, 1])]
[goes_back(small, table, (("column", 0), ("column", 2))), goes_back(small, table, (("column", 0), ("home", 1)))]
# [True, False]
game = [(("column", 0), ("home", 1)), (("cell", 0), ("home", 0))]
[can_go(small, table, game), can_go(small, table, game + game), after(small, table, game)]
# [True, False, ([[(3, 0)], [(3, 1)], []], [None, None], [2, 2])]
other = ([[], [(3, 1)], [(3, 0), (2, 1)]], [None, (2, 0)], [1, 1])
[are_alike(small, table, other), least_alike(small, other), how_many_alike(small, table), order_to(small, table, other), carried(small, table, other, (("column", 0), ("column", 2)))]
# [True, ([[], [(3, 0), (2, 1)], [(3, 1)]], [(2, 0), None], [1, 1]), 12, ([2, 1, 0], [1, 0]), (("column", 2), ("column", 0))]
order_to(small, table, ([[], [(3, 0), (2, 1)], [(3, 1)]], [None, (2, 0)], [1, 1]))
# ([2, 0, 1], [1, 0])
'''

CAPACITY = r'''
from supermoves.bars import fewest_tops, greatest_with, how_many_lots, needed_tops, tops_to_add
from supermoves.capacity import barring, bound, can_pass, first_bar, greatest, is_bar, least_cells, least_empty, trades
[bound("over", (4, 2, [])), bound("into", (4, 2, [])), greatest("whole", (1, 1, [3, 5])), greatest("over", (0, 1, [3])), can_pass("over", (0, 0, [1, 3]), 4)]
# [20, 10, 9, 2, False]
[barring("over", (0, 1, [3, 8]), 12), first_bar("whole", (1, 1, [4, 8]), 12), is_bar("over", (0, 1, [3]), 6, (3, 6))]
# [[(0, 3), (3, 8), (8, 12)], None, True]
[least_cells("over", 1, [], 8), least_cells("into", 0, [], 1), least_empty("over", 4, [], 21), trades("over", [], 8), trades("into", [2, 4], 6)]
# [3, None, 3, [(0, 3), (1, 2), (3, 1), (7, 0)], [(0, 2), (1, 1)]]
[needed_tops("into", (0, 1, [1, 2]), 3), fewest_tops("over", (0, 1, [1, 2, 3, 4, 5, 6, 9]), 7), how_many_lots("over", (0, 1, [1, 2, 3, 4, 5, 6, 9]), 7)]
# [[1, 2], [1, 3, 5], 42]
[tops_to_add("over", (1, 1, [5]), 12), greatest_with("over", (1, 1, [5]), 0), greatest_with("over", (1, 1, [5]), 2)]
# [[1, 8], 4, 13]
'''


class Examples(unittest.TestCase):
    def test_behind_7(self):
        play_examples(self, TEXTS)

    def test_behind_12(self):
        play_examples(self, MOVES)

    def test_behind_17(self):
        play_examples(self, CAPACITY)
