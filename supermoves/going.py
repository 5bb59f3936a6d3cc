"""Supermoves as games of single moves, and the goals that a run has."""

from supermoves.checks import is_within
from supermoves.errors import InvalidNumber
from supermoves.moves import can_move, copy_of, make_move
from supermoves.plans import least_plan
from supermoves.positions import card_from, check_position, run_of
from supermoves.rooms import (check_doable, check_sensible, helping_columns, kind_beside, makes_sense, moves_beside,
                              numbers_free, room_beside)
from supermoves.tops import Costs


def first_free(places, lies):
    """The first of some places at which none of the cards that go over lies."""
    return [place for place in places if place not in lies][0]


def place_for(rules, position, supermove, lies, step):
    """The place of a position for a step of a plan, where lies tells the places of the cards that go over."""
    card, place = step
    start, goal, _ = supermove
    cells, empty = numbers_free(position)
    if place == "next":
        return lies[card]
    if place == "cell":
        return first_free([("cell", number) for number in cells], lies)
    if place == "top":
        return ("column", helping_columns(rules, position, supermove, card)[0])
    if place == "goal":
        return ("column", goal)
    # The start is free, too, once all the cards are gone that were all of its column.
    own = [start] if kind_beside(position, supermove) == "whole" else []
    return first_free([("column", number) for number in empty + own], lies)


def exchanged(place, one, other):
    """A place, one of two being taken for the other one."""
    if place == one:
        return other
    return one if place == other else place


def game_of(rules, position, supermove, plan):
    """The game that does a sensible supermove of a known position by a shortest plan."""
    start, _, many = supermove
    lies = [("column", start)] * many
    game = []
    for card, place in plan:
        to = place_for(rules, position, supermove, lies, (card, place))
        if place == "goal" and to in lies:
            # Empty columns are as good as each other: let the goal have been one that is left empty.
            other = place_for(rules, position, supermove, lies, (card, "column"))
            game = [(exchanged(begin, to, other), exchanged(end, to, other)) for begin, end in game]
            lies = [exchanged(spot, to, other) for spot in lies]
        game.append((lies[card - 1], to))
        lies[card - 1] = to
    return game


def fewest_game(costs, rules, position, supermove):
    """A game of the fewest single moves that does a supermove of a known position which can be done."""
    kind, room = room_beside(rules, position, supermove)
    return game_of(rules, position, supermove, least_plan(costs, kind, room, supermove[2]))


def played(rules, position, supermove):
    """Any game of the fewest single moves that does a supermove."""
    check_doable(rules, position, supermove)
    return fewest_game(Costs(), rules, position, supermove)


def moved_over(position, supermove):
    """The position behind a supermove of a known one."""
    start, goal, many = supermove
    table = copy_of(position)
    columns = table[0]
    columns[goal].extend(columns[start][-many:])
    columns[start] = columns[start][:-many]
    return table


def may_move(rules, position, supermove, table, move):
    """Whether a value is a possible move of a table that a supermove of the position has come to, and one for it."""
    if not can_move(rules, table, move):
        return False
    begin, end = move
    start, _, many = supermove
    column = position[0][start]
    if card_from(table, begin) not in column[-many:] or end[0] == "home":
        return False
    beneath = len(column) - many
    # Only the card that lay beneath them is barred: where there was none, the start is an empty column.
    return end != ("column", start) or beneath == 0 or len(table[0][start]) > beneath


def is_played(rules, position, supermove, value):
    """Whether a value is a game of the fewest single moves that does a supermove."""
    check_sensible(rules, position, supermove)
    moves = moves_beside(Costs(), rules, position, supermove)
    if moves is None or not isinstance(value, list) or len(value) != moves:
        return False
    table = copy_of(position)
    for move in value:
        if not may_move(rules, position, supermove, table, move):
            return False
        make_move(table, move)
    return table == moved_over(position, supermove)


def behind_supermove(rules, position, supermove):
    """The position behind a supermove."""
    check_doable(rules, position, supermove)
    return moved_over(position, supermove)


def goals_of(rules, position, start, many):
    """The list, in order, of tuples of the fewest moves and the goal of all ways that so many cards can go."""
    check_position(rules, position)
    columns = position[0]
    if not is_within(start, 0, len(columns) - 1):
        raise InvalidNumber(start)
    if not is_within(many, 1, run_of(rules, columns[start])):
        raise InvalidNumber(many)
    costs = Costs()
    tried = [(start, goal, many) for goal in range(len(columns)) if goal != start]
    sensible = [supermove for supermove in tried if makes_sense(rules, position, supermove)]
    told = [(moves_beside(costs, rules, position, supermove), supermove[1]) for supermove in sensible]
    return sorted([(moves, goal) for moves, goal in told if moves is not None])
