"""The examples that the document prints, line by line."""

import unittest

from tests.helpers import play_examples

TEXTS = r'''
from supermoves.cards import deck, is_card, is_rules, lies_on, takers
from supermoves.positions import card_at, dealt, is_kind, is_move, is_place, is_position, is_room, is_supermove, is_won, place_of, runs
from supermoves.texts import card_of_text, move_of_text, position_of_text, text_of_card, text_of_move, text_of_position
free, small = (13, 4, "other"), (3, 2, "other")
[is_rules(free), is_rules((0, 4, "any")), is_card(free, (13, 3)), is_card(free, (14, 0)), lies_on(free, (5, 1), (6, 2)), lies_on(free, (5, 1), (6, 3)), takers(free, (5, 1)), takers(free, (13, 0))]
# [True, False, True, False, True, False, [(6, 0), (6, 2)], []]
[len(deck(free)), deck(small), text_of_card(free, (10, 1)), card_of_text(free, "AS")]
# [52, [(1, 0), (1, 1), (2, 0), (2, 1), (3, 0), (3, 1)], "TD", (1, 2)]
table = ([[(3, 0), (2, 1)], [(3, 1)], []], [(2, 0), None], [1, 1])
[is_position(small, table), is_position(small, (table[0], [None, None], [1, 1])), runs(small, table), is_won(small, table), card_at(small, table, ("column", 0)), card_at(small, table, ("home", 1))]
# [True, False, [2, 1, 0], False, (2, 1), (1, 1)]
[place_of(small, table, (3, 0)), place_of(small, table, (2, 0)), place_of(small, table, (1, 0)), card_at(small, table, ("column", 2)), is_place(small, table, ("cell", 2)), is_move(small, table, (("home", 0), ("cell", 1)))]
# [("column", 0), ("cell", 0), ("home", 0), None, False, False]
runs((5, 2, "other"), ([[(5, 0), (3, 1), (2, 0)], [(5, 1), (4, 0), (4, 1), (3, 0)]], [], [1, 2]))
# [2, 2]
[is_supermove(small, table, (0, 2, 2)), is_supermove(small, table, (1, 0, 2)), is_kind("over"), is_room((1, 0, [1, 4])), is_room((1, 0, [4, 1])), dealt(small, deck(small), 2, 1)]
# [True, False, True, True, False, ([[(1, 0), (2, 0), (3, 0)], [(1, 1), (2, 1), (3, 1)]], [None], [0, 0])]
[text_of_position(small, table), position_of_text(small, text_of_position(small, table)) == table]
# ["1: 3C 2D\n2: 3D\n3:\ncells: 2C -\nhomes: 1 1\n", True]
[text_of_move(small, table, (("cell", 0), ("column", 1))), move_of_text(small, table, "1h"), move_of_text(small, table, "ah"), move_of_text(small, table, "3b")]
# ["a2", (("column", 0), ("home", 1)), (("cell", 0), ("home", 0)), (("column", 2), ("cell", 1))]
'''


class Examples(unittest.TestCase):
    def test_behind_7(self):
        play_examples(self, TEXTS)
