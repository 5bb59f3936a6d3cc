"""The examples that the document prints, line by line."""

import unittest

from tests.helpers import play_examples

TEXTS = r'''
from supermoves.cards import deck, is_card, is_rules, lies_on, takers
from supermoves.positions import card_at, dealt, is_kind, is_move, is_place, is_position, is_room, is_supermove, is_won, place_of, runs
from supermoves.texts import card_of_text, move_of_text, position_of_text, text_of_card, text_of_move, text_of_position
free, small = (13, 4, "other"), (3, 2, "other")
[is_rules(free), is_rules((0, 4, "any")), is_card(free, (13, 3)), is_card(free, (14, 0)), lies_on(free, (5, 1), (6, 2)), lies_on(free, (5, 1), (6, 3)), takers(free, (5, 1)), takers(free, (13, 0))]
# [True, False, True, False, True, False, [(6, 0), (6, 2)], []]
[len(deck(free)), deck(small), text_of_card(free, (10, 1)), card_of_text(free, "AS")]
# [52, [(1, 0), (1, 1), (2, 0), (2, 1), (3, 0), (3, 1)], "TD", (1, 2)]
table = ([[(3, 0), (2, 1)], [(3, 1)], []], [(2, 0), None], [1, 1])
[is_position(small, table), is_position(small, (table[0], [None, None], [1, 1])), runs(small, table), is_won(small, table), card_at(small, table, ("column", 0)), card_at(small, table, ("home", 1))]
# [True, False, [2, 1, 0], False, (2, 1), (1, 1)]
[place_of(small, table, (3, 0)), place_of(small, table, (2, 0)), place_of(small, table, (1, 0)), card_at(small, table, ("column", 2)), is_place(small, table, ("cell", 2)), is_move(small, table, (("home", 0), ("cell", 1)))]
# [("column", 0), ("cell", 0), ("home", 0), None, False, False]
runs((5, 2, "other"), ([[(5, 0), (3, 1), (2, 0)], [(5, 1), (4, 0), (4, 1), (3, 0)]], [], [1, 2]))
# [2, 2]
[is_supermove(small, table, (0, 2, 2)), is_supermove(small, table, (1, 0, 2)), is_kind("over"), is_room((1, 0, [1, 4])), is_room((1, 0, [4, 1])), dealt(small, deck(small), 2, 1)]
# [True, False, True, True, False, ([[(1, 0), (2, 0), (3, 0)], [(1, 1), (2, 1), (3, 1)]], [None], [0, 0])]
[text_of_position(small, table), position_of_text(small, text_of_position(small, table)) == table]
# ["1: 3C 2D\n2: 3D\n3:\ncells: 2C -\nhomes: 1 1\n", True]
[text_of_move(small, table, (("cell", 0), ("column", 1))), move_of_text(small, table, "1h"), move_of_text(small, table, "ah"), move_of_text(small, table, "3b")]
# ["a2", (("column", 0), ("home", 1)), (("cell", 0), ("home", 0)), (("column", 2), ("cell", 1))]
'''

MOVES = r'''
from supermoves.alike import are_alike, carried, how_many_alike, least_alike, order_to
from supermoves.moves import after, behind, can_go, goes_back, is_possible, possible_moves
small, table = (3, 2, "other"), ([[(3, 0), (2, 1)], [(3, 1)], []], [(2, 0), None], [1, 1])
possible_moves(small, table)[:4]
# [(("cell", 0), ("cell", 1)), (("cell", 0), ("column", 1)), (("cell", 0), ("column", 2)), (("cell", 0), ("home", 0))]
[len(possible_moves(small, table)), is_possible(small, table, (("column", 1), ("column", 0))), behind(small, table, (("cell", 0), ("column", 1)))]
# [9, False, ([[(3, 0), (2, 1)], [(3, 1), (2, 0)], []], [None, None], [1, 1])]
[goes_back(small, table, (("column", 0), ("column", 2))), goes_back(small, table, (("column", 0), ("home", 1)))]
# [True, False]
game = [(("column", 0), ("home", 1)), (("cell", 0), ("home", 0))]
[can_go(small, table, game), can_go(small, table, game + game), after(small, table, game)]
# [True, False, ([[(3, 0)], [(3, 1)], []], [None, None], [2, 2])]
other = ([[], [(3, 1)], [(3, 0), (2, 1)]], [None, (2, 0)], [1, 1])
[are_alike(small, table, other), least_alike(small, other), how_many_alike(small, table), order_to(small, table, other), carried(small, table, other, (("column", 0), ("column", 2)))]
# [True, ([[], [(3, 0), (2, 1)], [(3, 1)]], [(2, 0), None], [1, 1]), 12, ([2, 1, 0], [1, 0]), (("column", 2), ("column", 0))]
order_to(small, table, ([[], [(3, 0), (2, 1)], [(3, 1)]], [None, (2, 0)], [1, 1]))
# ([2, 0, 1], [1, 0])
'''

CAPACITY = r'''
from supermoves.bars import fewest_tops, greatest_with, how_many_lots, needed_tops, tops_to_add
from supermoves.capacity import barring, bound, can_pass, first_bar, greatest, is_bar, least_cells, least_empty, trades
[bound("over", (4, 2, [])), bound("into", (4, 2, [])), greatest("whole", (1, 1, [3, 5])), greatest("over", (0, 1, [3])), can_pass("over", (0, 0, [1, 3]), 4)]
# [20, 10, 9, 2, False]
[barring("over", (0, 1, [3, 8]), 12), first_bar("whole", (1, 1, [4, 8]), 12), is_bar("over", (0, 1, [3]), 6, (3, 6))]
# [[(0, 3), (3, 8), (8, 12)], None, True]
[least_cells("over", 1, [], 8), least_cells("into", 0, [], 1), least_empty("over", 4, [], 21), trades("over", [], 8), trades("into", [2, 4], 6)]
# [3, None, 3, [(0, 3), (1, 2), (3, 1), (7, 0)], [(0, 2), (1, 1)]]
[needed_tops("into", (0, 1, [1, 2]), 3), fewest_tops("over", (0, 1, [1, 2, 3, 4, 5, 6, 9]), 7), how_many_lots("over", (0, 1, [1, 2, 3, 4, 5, 6, 9]), 7)]
# [[1, 2], [1, 3, 5], 42]
[tops_to_add("over", (1, 1, [5]), 12), greatest_with("over", (1, 1, [5]), 0), greatest_with("over", (1, 1, [5]), 2)]
# [[1, 8], 4, 13]
'''

PRICES = r'''
from supermoves.doubling import same_prices, cheaper_from, dearest, doubling, saved, whole_cost
from supermoves.prices import fewest, longest_within, price_of, prices
[prices("over", 4, 2), prices("into", 1, 3), prices("whole", 1, 2), prices("over", 10 ** 29, 1)]
# [[(1, 1), (2, 6), (4, 9), (8, 4)], [(1, 1), (2, 3), (4, 3), (6, 1)], [(1, 1), (2, 3), (4, 3), (6, 1)], [(1, 1), (2, 100000000000000000000000000001), (4, 100000000000000000000000000000)]]
[fewest("over", 4, 2, 20), fewest("over", 4, 2, 21), fewest("into", 1, 3, 8), fewest("whole", 1, 2, 8), fewest("over", 10 ** 28, 5, 10 ** 29)]
# [81, None, 25, 25, 539999999999999999999999999923]
[price_of("over", 4, 2, 17), price_of("over", 4, 2, 21), longest_within("over", 4, 2, 50), longest_within("into", 0, 1, 0)]
# [8, None, 16, 0]
[doubling("into", 1, 3), cheaper_from("into", 1, 3), saved("into", 1, 3, 8), cheaper_from("over", 4, 2), cheaper_from("over", 1, 3), saved("over", 1, 3, 17)]
# [[(1, 1), (2, 3), (4, 3), (8, 1)], 8, 2, None, 16, None]
[same_prices("over", 1, 3, "over", 0, 4), same_prices("whole", 4, 2, "into", 4, 3), same_prices("over", 2, 1, "over", 1, 2), whole_cost("over", 4, 2), dearest("into", 1, 3)]
# [True, True, False, (20, 81), 6]
'''

TOPS = r'''
from supermoves.helped import best_top, cost_of_parting, first_parting, how_many_partings, is_least_parting, tops_within
from supermoves.tops import fewest_with
[fewest_with("over", (1, 0, [2]), 3), fewest_with("into", (1, 1, [2, 4]), 6), fewest_with("over", (1, 1, [4]), 8), fewest_with("over", (0, 0, [1, 2, 3, 4]), 5), fewest_with("over", (0, 0, [1, 3]), 4)]
# [5, 15, 27, 9, None]
[fewest_with("whole", (1, 1, [3]), 6), fewest_with("into", (1, 2, [3]), 6), fewest_with("over", (0, 0, [9]), 1)]
# [15, 15, 1]
[fewest_with("into", (0, 1, [2]), 3), fewest_with("whole", (1, 1, [4]), 7), cost_of_parting("over", (2, 0, []), 3, [("cell", 1, 2)]), cost_of_parting("into", (3, 0, []), 1, []), cost_of_parting("over", (0, 2, [1]), 4, [("column", 1, 3)])]
# [None, 21, None, None, 11]
[first_parting("over", (1, 0, [2]), 3), cost_of_parting("over", (1, 0, [2]), 3, [("top", 1, 2)]), cost_of_parting("over", (1, 0, [2]), 3, [("column", 1, 2)]), how_many_partings("over", (1, 0, [2]), 3)]
# [[("cell", 1, 1), ("top", 2, 2)], 7, None, 1]
[is_least_parting("over", (1, 0, [2]), 3, [("cell", 1, 1), ("top", 2, 2)]), is_least_parting("over", (0, 0, []), 1, [])]
# [True, True]
[best_top("over", (0, 0, [1, 3]), 4), best_top("over", (1, 1, []), 8), best_top("over", (3, 0, []), 4), tops_within("over", (1, 0, []), 4, 9), tops_within("over", (1, 0, []), 4, 7), tops_within("over", (1, 0, []), 4, 6)]
# [(2, 7), (4, 27), None, [2], [1, 2], None]
'''

PLANS = r'''
from supermoves.bends import how_many_shortest, parked, shortened, turned_about
from supermoves.plans import behind_step, is_plan, is_right, is_shortest, is_standing, possible_steps, shortest_plan, standings, start_of
room = (1, 0, [2])
five = [(1, "cell"), (2, "top"), (3, "goal"), (2, "next"), (1, "next")]
[start_of(3), possible_steps("over", room, start_of(3)), behind_step("over", room, start_of(3), (1, "cell")), possible_steps("over", room, ["cell", "top", "base"])]
# [["next", "next", "base"], [(1, "cell")], ["cell", "next", "base"], [(1, "next"), (2, "next"), (3, "goal")]]
[is_right("over", room, 3, five), is_shortest("over", room, 3, five), is_right("over", (1, 0, []), 3, five), is_plan("over", room, 3, five[:2]), len(shortest_plan("over", room, 3)), shortest_plan("over", (1, 0, []), 3)]
# [True, True, False, True, 5, None]
[parked("over", room, 3, five), turned_about("over", room, 3, five), standings("over", room, 3, five[:1])]
# [[(1, 1, "cell"), (2, 2, "top")], ("over", (1, 0, [2]), [(1, "cell"), (2, "top"), (3, "goal"), (2, "next"), (1, "next")]), [["next", "next", "base"], ["cell", "next", "base"]]]
two = [(1, "cell"), (2, "goal"), (1, "next")]
[turned_about("whole", (1, 0, []), 2, two), shortened("over", room, 3, [(1, "cell"), (1, "next")] + five), how_many_shortest("over", room, 3), how_many_shortest("over", (2, 0, []), 3)]
# [("into", (1, 1, []), [(1, "cell"), (2, "goal"), (1, "next")]), [(1, "cell"), (2, "top"), (3, "goal"), (2, "next"), (1, "next")], 1, 1]
[is_standing("into", (0, 1, []), 2, ["column", "goal"]), is_standing("whole", (0, 0, []), 2, ["column", "goal"]), is_standing("over", (1, 0, []), 2, ["next", "cell"])]
# [False, True, False]
'''

ROOMS = r'''
from supermoves.going import behind_supermove, goals_of, is_played, played
from supermoves.rooms import all_supermoves, back_of, fewest_moves, is_sensible, lacking, room_of, spoilers
rules = (4, 2, "other")
position = ([[(4, 0), (3, 1), (2, 0), (1, 1)], [(4, 1), (3, 0)], [], [(2, 1)]], [None, (1, 0)], [0, 0])
[is_sensible(rules, position, (0, 1, 1)), room_of(rules, position, (0, 2, 3)), room_of(rules, position, (3, 1, 1)), fewest_moves(rules, position, (0, 2, 2)), fewest_moves(rules, position, (0, 2, 3))]
# [False, ("into", (1, 1, [])), ("whole", (1, 1, [])), 3, None]
[all_supermoves(rules, position), goals_of(rules, position, 0, 1), lacking(rules, position, (0, 2, 3)), spoilers(rules, position, (0, 2, 2))]
# [[((0, 2, 1), 1), ((0, 2, 2), 3), ((1, 2, 1), 1), ((3, 1, 1), 1)], [(1, 2)], (1, 1), [("cell", 0)]]
[behind_supermove(rules, position, (3, 1, 1))[0][1], back_of(rules, position, (3, 1, 1)), back_of(rules, position, (1, 2, 1))]
# [[(4, 1), (3, 0), (2, 1)], (1, 3, 1), (2, 1, 1)]
game = played(rules, position, (0, 2, 2))
[is_played(rules, position, (0, 2, 2), game), game]
# [True, [(("column", 0), ("cell", 0)), (("column", 0), ("column", 2)), (("cell", 0), ("column", 2))]]
four, held = (4, 4, "other"), ([[(3, 1), (3, 0), (2, 1)], [(4, 0), (4, 1)], [(4, 2), (3, 2)]], [], [2, 1, 2, 4])
[room_of(four, held, (0, 1, 2)), fewest_moves(four, held, (0, 1, 2)), spoilers(four, held, (0, 1, 2)), lacking(four, held, (0, 1, 2))]
# [("over", (0, 0, [1])), 3, [("column", 2)], (0, 0)]
tall = (9, 1, "same")
[fewest_moves(tall, ([[(8, 0), (7, 0), (6, 0), (5, 0), (4, 0), (3, 0), (2, 0), (1, 0)], [(9, 0)], [], []], [None], [0]), (0, 1, 8))]
# [25]
'''

WORTH = r'''
from supermoves.exchange import cheapest_room, least_rooms
from supermoves.worth import idle, last_card, losses, needed, saves, with_more
[with_more((1, 0, [2]), "column"), with_more((1, 0, [2]), 4), with_more((1, 0, [2]), 2), saves("over", (1, 1, []), 4, "cell"), saves("over", (1, 0, []), 3, 2), saves("into", (0, 1, []), 2, "cell")]
# [(1, 1, [2]), (1, 0, [2, 4]), (1, 0, [2]), (9, 7), (None, 5), (None, 3)]
[last_card("over", (1, 1, []), 4), last_card("over", (1, 1, []), 5), [last_card("into", (1, 3, []), many) for many in [7, 8]]]
# [4, None, [4, 6]]
[losses("over", (1, 1, [2]), 4), idle("over", (2, 1, [3]), 3), needed("over", (1, 0, [2]), 3)]
# [[("cell", 9), ("column", 9), (2, 9)], ["cell", "column"], ["cell", 2]]
[least_rooms("over", [], 4, None), least_rooms("over", [], 4, 7), least_rooms("into", [], 2, None), least_rooms("over", [], 4, 6), cheapest_room("over", [], 4, None, 2, 3)]
# [[(0, 2), (1, 1), (3, 0)], [(0, 3), (1, 2), (2, 1), (3, 0)], [(0, 2), (1, 1)], [], (5, 1, 1)]
'''

SEARCH = r'''
from supermoves.positions import dealt
from supermoves.search import by_distance, closed_set, deepest, game_between, good_moves, how_many_come, is_closed_set, is_lost, is_shortest_game, least_moves, losing_moves, lost_game, moves_between, shortest_game, won_and_lost
two, table = (4, 2, "other"), ([[(4, 0), (1, 0), (1, 1), (3, 1)], [(2, 0), (3, 0), (2, 1), (4, 1)]], [None], [0, 0])
[how_many_come(two, table), by_distance(two, table), least_moves(two, table), won_and_lost(two, table), deepest(two, table)]
# [19, [1, 2, 1, 1, 1, 1, 1, 1, 1, 2, 2, 3, 2], 12, (18, 1), 12]
[good_moves(two, table), losing_moves(two, table), lost_game(two, table), is_lost(two, table), closed_set(two, table)]
# [[(("column", 0), ("cell", 0))], [(("column", 1), ("cell", 0))], [(("column", 1), ("cell", 0))], False, None]
[is_shortest_game(two, table, shortest_game(two, table)), is_shortest_game(two, table, []), len(game_between(two, table, ([[], []], [None], [4, 4])))]
# [True, False, 12]
one, stuck = (3, 1, "same"), ([[(1, 0), (3, 0)], [(2, 0)]], [], [0])
[least_moves(one, stuck), shortest_game(one, stuck), how_many_come(one, stuck), is_lost(one, stuck), lost_game(one, stuck)]
# [None, None, 2, True, []]
[is_closed_set(one, stuck, [([[(1, 0), (3, 0), (2, 0)], []], [], [0]), ([[(2, 0)], [(1, 0), (3, 0)]], [], [0])]), is_closed_set(one, stuck, [stuck]), is_closed_set(one, stuck, closed_set(one, stuck))]
# [True, False, True]
[moves_between(one, stuck, ([[(1, 0), (3, 0), (2, 0)], []], [], [0])), moves_between(one, stuck, ([[], []], [], [3])), game_between(one, stuck, stuck)]
# [1, None, []]
'''

HOMES = r'''
from supermoves.homes import harmless, is_why_not, needs_no_place, why_not
from supermoves.sent import harm_of, how_many_orders, is_sendings, sendings, sent_home
small, table = (3, 2, "other"), ([[(3, 0), (2, 1)], [(3, 1), (1, 1), (2, 0)]], [], [1, 0])
[harmless(small, table), needs_no_place(small, table, (2, 1)), why_not(small, table, (3, 0)), why_not(small, table, (2, 0)), sendings(small, table), how_many_orders(small, table)]
# [[(2, 0)], False, [(3, 0)], None, [(2, 0), (1, 1), (2, 1), (3, 0), (3, 1)], 2]
[sent_home(small, table), is_sendings(small, table, [(2, 0), (1, 1), (2, 1), (3, 1), (3, 0)]), is_sendings(small, table, [(2, 0)])]
# [([[], []], [], [3, 3]), True, False]
rules, lost = (5, 3, "other"), ([[(3, 1), (4, 1)], [(5, 1), (5, 0)]], [], [4, 2, 5])
[harmless(rules, lost), needs_no_place(rules, lost, (5, 0)), why_not(rules, lost, (5, 0)), is_why_not(rules, lost, (5, 0), [(5, 0), (4, 1)]), harm_of(rules, lost, (5, 0))]
# [[], False, [(5, 0), (4, 1)], True, None]
'''

GAMES = r'''
from supermoves.folded import after_long, folded, is_folded, supermove_of, text_of_long, unfolded
from supermoves.games import by_cards, by_places, game_of_text, is_shortcut, last_for_good, shortcut, text_of_game, way_back
rules, table = (3, 2, "any"), ([[(3, 0), (2, 1), (1, 0)], [(3, 1)], [(2, 0)], []], [None], [0, 1])
over = [(("column", 0), ("cell", 0)), (("column", 0), ("column", 1)), (("cell", 0), ("column", 1))]
[text_of_game(rules, table, over), game_of_text(rules, table, "1a 12 a2") == over, last_for_good(rules, table, over)]
# ["1a 12 a2", True, None]
way_back(rules, table, over)
# [(("column", 1), ("cell", 0)), (("column", 1), ("column", 0)), (("cell", 0), ("column", 0))]
detour = [(("column", 2), ("cell", 0)), (("cell", 0), ("column", 3)), (("column", 3), ("column", 1))]
[shortcut(rules, table, detour), is_shortcut(rules, table, detour, detour)]
# [[(("column", 2), ("column", 1))], False]
[by_cards(rules, table, over), by_places(rules, table, by_cards(rules, table, over)) == over]
# [[((1, 0), ("cell", 0)), ((2, 1), ("column", 1)), ((1, 0), ("column", 1))], True]
[supermove_of(rules, table, over), supermove_of(rules, table, over[:2]), folded(rules, table, over), is_folded(rules, table, over, over), text_of_long(rules, table, [(0, 1, 2), (("column", 2), ("cell", 0))])]
# [(0, 1, 2), None, [(0, 1, 2)], False, "12x2 3a"]
[after_long(rules, table, [(0, 1, 2)]), len(unfolded(rules, table, [(0, 1, 2)]))]
# [([[(3, 0)], [(3, 1), (2, 1), (1, 0)], [(2, 0)], []], [None], [0, 1]), 3]
'''

PIECES = r'''
from supermoves.pieces import cells_for, cells_within, cost_line, how_many_at, mean_price, rows_hold, rows_of, steps_by_rows
[rows_of("over", 2), rows_of("into", 3), rows_of("whole", 2), rows_of("over", 0)]
# [(0, [(1, 1, 0), (2, 2, 1), (4, 1, 2), (8, 0, 1)]), (1, [(1, 1, 0), (2, 2, 1), (4, 1, 2), (6, 1, 0), (8, -1, 1)]), (1, [(1, 1, 0), (2, 2, 1), (4, 1, 2), (6, 1, 0), (8, -1, 1)]), (0, [(1, 1, 0), (2, 0, 1)])]
[rows_hold("into", 3, 0), rows_hold("into", 3, 10 ** 29), steps_by_rows("over", 2, 4, 20), steps_by_rows("into", 3, 0, 2), rows_of("into", 7)[0]]
# [False, True, 81, None, 12]
[cost_line("over", 2), cost_line("into", 3), mean_price("over", 2), mean_price("into", 3), how_many_at("into", 3, 8), how_many_at("into", 3, 3)]
# [(0, 9, 18), (1, 7, 18), (9, 2), (9, 2), (-1, 1), (0, 0)]
[cells_for("over", 2, 20), cells_for("into", 1, 7), cells_for("over", 3, 1), cells_within("over", 2, 20, 81), cells_within("over", 2, 20, 80), cells_within("over", 2, 20, 38), cells_within("over", 0, 10 ** 29, 2 * 10 ** 29)]
# [4, 6, 0, 4, 5, None, 99999999999999999999999999999]
'''

LIVE = r'''
from supermoves.live import LiveTable, is_deed
small = (3, 2, "other")
live = LiveTable(small, ([[(3, 0), (2, 1)], [(3, 1)], []], [(2, 0), None], [1, 1]))
[is_deed(live, ("move", (("cell", 0), ("column", 1)))), is_deed(live, ("supermove", (0, 2, 2))), is_deed(live, ("supermove", (1, 2, 1))), is_deed(live, ("read", "1h a2")), is_deed(live, ("read", "2a"))]
# [True, False, False, True, False]
live.do(("move", (("cell", 0), ("column", 1))))
[live.told(), live.hints(), live.singles(), live.game()]
# ["1: 3C 2D\n2: 3D 2C\n3:\ncells: - -\nhomes: 1 1\n", [(1, (0, 2, 1)), (1, (1, 2, 1))], 1, [(("cell", 0), ("column", 1))]]
live.do(("home",))
[live.done(), live.singles(), live.undo(), live.done(), len(live.log()), live == live.copy(), live.redo(), live.position()]
# [True, 5, None, False, 1, True, None, ([[], [], []], [None, None], [3, 3])]
'''


class Examples(unittest.TestCase):
    def test_behind_7(self):
        play_examples(self, TEXTS)

    def test_behind_12(self):
        play_examples(self, MOVES)

    def test_behind_17(self):
        play_examples(self, CAPACITY)

    def test_behind_23(self):
        play_examples(self, PRICES)

    def test_behind_28(self):
        play_examples(self, TOPS)

    def test_behind_35(self):
        play_examples(self, PLANS)

    def test_behind_41(self):
        play_examples(self, ROOMS)

    def test_behind_46(self):
        play_examples(self, WORTH)

    def test_behind_64(self):
        play_examples(self, SEARCH)

    def test_behind_52(self):
        play_examples(self, HOMES)

    def test_behind_59(self):
        play_examples(self, GAMES)

    def test_behind_69(self):
        play_examples(self, PIECES)

    def test_behind_72(self):
        play_examples(self, LIVE)
