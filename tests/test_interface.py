"""The interface: names, arguments, and where each name is defined."""

import importlib
import inspect
import pathlib
import unittest

ERRORS = ["MoveError", "InvalidNumber", "InvalidRules", "InvalidCard", "InvalidPosition", "InvalidPlace",
          "InvalidMove", "InvalidGame", "InvalidKind", "InvalidRoom", "InvalidPlan", "InvalidSupermove",
          "InvalidText", "InvalidDeed", "TooMany", "Stuck", "NothingToUndo", "NothingToRedo"]

FUNCTIONS = {
    "cards": "is_rules(value); is_card(rules, value); deck(rules); lies_on(rules, card, other); takers(rules, card)",
    "positions": "is_position(rules, value); is_place(rules, position, value); is_move(rules, position, value); "
                 "is_supermove(rules, position, value); is_kind(value); is_room(value); "
                 "dealt(rules, cards, columns, cells); place_of(rules, position, card); "
                 "card_at(rules, position, place); runs(rules, position); is_won(rules, position)",
    "texts": "text_of_card(rules, card); card_of_text(rules, text); text_of_position(rules, position); "
             "position_of_text(rules, text); text_of_move(rules, position, move); "
             "move_of_text(rules, position, text)",
    "moves": "possible_moves(rules, position); is_possible(rules, position, value); behind(rules, position, move); "
             "goes_back(rules, position, move); can_go(rules, position, value); after(rules, position, game)",
    "alike": "are_alike(rules, position, other); least_alike(rules, position); how_many_alike(rules, position); "
             "order_to(rules, position, other); carried(rules, position, other, move)",
    "capacity": "bound(kind, room); can_pass(kind, room, many); greatest(kind, room); barring(kind, room, many); "
                "first_bar(kind, room, many); is_bar(kind, room, many, value); "
                "least_cells(kind, empty, tops, many); least_empty(kind, cells, tops, many); "
                "trades(kind, tops, many)",
    "bars": "needed_tops(kind, room, many); fewest_tops(kind, room, many); how_many_lots(kind, room, many); "
            "tops_to_add(kind, room, many); greatest_with(kind, room, further)",
    "prices": "prices(kind, cells, empty); fewest(kind, cells, empty, many); price_of(kind, cells, empty, number); "
              "longest_within(kind, cells, empty, steps)",
    "doubling": "same_prices(kind, cells, empty, other_kind, other_cells, other_empty); "
                "doubling(kind, cells, empty); cheaper_from(kind, cells, empty); saved(kind, cells, empty, many); "
                "whole_cost(kind, cells, empty); dearest(kind, cells, empty)",
    "tops": "fewest_with(kind, room, many)",
    "helped": "cost_of_parting(kind, room, many, parting); first_parting(kind, room, many); "
              "is_least_parting(kind, room, many, value); how_many_partings(kind, room, many); "
              "best_top(kind, room, many); tops_within(kind, room, many, most)",
    "plans": "start_of(many); is_standing(kind, room, many, value); possible_steps(kind, room, standing); "
             "behind_step(kind, room, standing, step); is_plan(kind, room, many, value); "
             "is_right(kind, room, many, value); standings(kind, room, many, plan); shortest_plan(kind, room, many); "
             "is_shortest(kind, room, many, value)",
    "bends": "parked(kind, room, many, plan); turned_about(kind, room, many, plan); "
             "shortened(kind, room, many, plan); how_many_shortest(kind, room, many)",
    "rooms": "is_sensible(rules, position, supermove); room_of(rules, position, supermove); "
             "fewest_moves(rules, position, supermove); all_supermoves(rules, position); "
             "lacking(rules, position, supermove); spoilers(rules, position, supermove); "
             "back_of(rules, position, supermove)",
    "going": "played(rules, position, supermove); is_played(rules, position, supermove, value); "
             "behind_supermove(rules, position, supermove); goals_of(rules, position, start, many)",
    "worth": "with_more(room, more); saves(kind, room, many, more); last_card(kind, room, many); "
             "losses(kind, room, many); idle(kind, room, many); needed(kind, room, many)",
    "exchange": "least_rooms(kind, tops, many, bound); "
                "cheapest_room(kind, tops, many, bound, cell_price, column_price)",
    "homes": "needs_no_place(rules, position, card); harmless(rules, position); why_not(rules, position, card); "
             "is_why_not(rules, position, card, value)",
    "search": "how_many_come(rules, position); by_distance(rules, position); moves_between(rules, position, other); "
              "game_between(rules, position, other); least_moves(rules, position); shortest_game(rules, position); "
              "is_shortest_game(rules, position, value); closed_set(rules, position); "
              "is_closed_set(rules, position, value); good_moves(rules, position); losing_moves(rules, position); "
              "is_lost(rules, position); won_and_lost(rules, position); deepest(rules, position); "
              "lost_game(rules, position)",
    "sent": "sent_home(rules, position); sendings(rules, position); is_sendings(rules, position, value); "
            "how_many_orders(rules, position); harm_of(rules, position, card); harm_table()",
    "games": "positions_of(rules, position, game); text_of_game(rules, position, game); "
             "game_of_text(rules, position, text); last_for_good(rules, position, game); "
             "way_back(rules, position, game); shortcut(rules, position, game); "
             "is_shortcut(rules, position, game, value); by_cards(rules, position, game); "
             "by_places(rules, position, told)",
    "folded": "supermove_of(rules, position, game); folded(rules, position, game); "
              "is_folded(rules, position, game, value); text_of_long(rules, position, long); "
              "after_long(rules, position, long); unfolded(rules, position, long)",
    "pieces": "rows_of(kind, empty); rows_hold(kind, empty, cells); steps_by_rows(kind, empty, cells, many); "
              "cost_line(kind, empty); mean_price(kind, empty); cells_for(kind, empty, many); "
              "cells_within(kind, empty, many, steps); how_many_at(kind, empty, price)",
    "live": "is_deed(live, value)",
}

METHODS = {"__init__": ["self", "rules", "position"], "rules": ["self"], "position": ["self"], "told": ["self"],
           "do": ["self", "deed"], "undo": ["self"], "redo": ["self"], "log": ["self"], "copy": ["self"],
           "game": ["self"], "singles": ["self"], "hints": ["self"], "done": ["self"]}


class Interface(unittest.TestCase):
    def test_errors_are_defined_in_their_file(self):
        module = importlib.import_module("supermoves.errors")
        for name in ERRORS:
            self.assertTrue(inspect.isclass(getattr(module, name)))
            self.assertEqual(getattr(module, name).__module__, "supermoves.errors")

    def test_functions_are_defined_in_their_file(self):
        for file, rows in FUNCTIONS.items():
            module = importlib.import_module("supermoves." + file)
            for row in rows.split("; "):
                name, told = row[:-1].split("(")
                function = getattr(module, name)
                self.assertTrue(inspect.isfunction(function), name)
                self.assertEqual(function.__module__, "supermoves." + file)
                wanted = told.split(", ") if told else []
                self.assertEqual(list(inspect.signature(function).parameters), wanted, name)
                for parameter in inspect.signature(function).parameters.values():
                    self.assertIs(parameter.default, inspect.Parameter.empty)
                    self.assertEqual(parameter.kind, inspect.Parameter.POSITIONAL_OR_KEYWORD)

    def test_the_class_has_its_methods_in_its_own_body(self):
        live = importlib.import_module("supermoves.live").LiveTable
        self.assertEqual(live.__module__, "supermoves.live")
        for name, parameters in METHODS.items():
            self.assertTrue(inspect.isfunction(vars(live)[name]), name)
            self.assertEqual(list(inspect.signature(vars(live)[name]).parameters), parameters)

    def test_all_modules_are_told_here(self):
        folder = pathlib.Path(importlib.import_module("supermoves").__file__).parent
        files = {path.stem for path in folder.glob("*.py")} - {"__init__", "checks", "errors"}
        self.assertEqual(files, set(FUNCTIONS))
