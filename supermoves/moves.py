"""Single moves, and games of them."""

from supermoves.cards import goes_on
from supermoves.errors import InvalidGame, InvalidMove
from supermoves.positions import card_from, check_position, fits_move, how_many_places

SORTS_IN_ORDER = ("cell", "column", "home")


def places_of(position):
    """The list of all places of a known position, in order."""
    return [(sort, number) for sort in SORTS_IN_ORDER for number in range(how_many_places(position, sort))]


def takes_card(rules, position, goal, card):
    """Whether a place of a known position takes a card."""
    columns, cells, homes = position
    sort, number = goal
    if sort == "column":
        return not columns[number] or goes_on(rules, card, columns[number][-1])
    if sort == "cell":
        return cells[number] is None
    return number == card[1] and homes[number] == card[0] - 1


def can_move(rules, position, value):
    """Whether a value is a possible move of a known position."""
    if not fits_move(position, value):
        return False
    start, goal = value
    card = card_from(position, start)
    return card is not None and takes_card(rules, position, goal, card)


def moves_from(rules, position, start):
    """The list of the possible moves of a known position from a column or a cell, in order."""
    card = card_from(position, start)
    if card is None:
        return []
    # No card lies on itself, and its own cell is not free: so the goal is never the start.
    return [(start, goal) for goal in places_of(position) if takes_card(rules, position, goal, card)]


def moves_in(rules, position):
    """The list of all possible moves of a known position, in order."""
    starts = [place for place in places_of(position) if place[0] != "home"]
    return [move for start in starts for move in moves_from(rules, position, start)]


def possible_moves(rules, position):
    """The list of all possible moves, in order."""
    check_position(rules, position)
    return moves_in(rules, position)


def is_possible(rules, position, value):
    """Whether a value is a possible move."""
    check_position(rules, position)
    return can_move(rules, position, value)


def copy_of(position):
    """A position that is equal, and shares no list."""
    columns, cells, homes = position
    return ([list(column) for column in columns], list(cells), list(homes))


def make_move(position, move):
    """Do a possible move in the very position that is given."""
    columns, cells, homes = position
    start, goal = move
    card = card_from(position, start)
    if start[0] == "column":
        columns[start[1]].pop()
    else:
        cells[start[1]] = None
    if goal[0] == "column":
        columns[goal[1]].append(card)
    elif goal[0] == "cell":
        cells[goal[1]] = card
    else:
        homes[goal[1]] += 1


def position_behind(position, move):
    """The position behind a possible move of a known position."""
    table = copy_of(position)
    make_move(table, move)
    return table


def check_possible(rules, position, move):
    """Refuse what is no possible move of a known position."""
    if not can_move(rules, position, move):
        raise InvalidMove(move)


def behind(rules, position, move):
    """The position behind a possible move."""
    check_position(rules, position)
    check_possible(rules, position, move)
    return position_behind(position, move)


def can_return(rules, position, move):
    """Whether behind a possible move of a known position the one with start and goal exchanged is possible."""
    start, goal = move
    return can_move(rules, position_behind(position, move), (goal, start))


def goes_back(rules, position, move):
    """Whether behind a possible move the move with start and goal exchanged is possible."""
    check_position(rules, position)
    check_possible(rules, position, move)
    return can_return(rules, position, move)


def position_after(rules, position, value):
    """The position behind a game, None if the value is no game that can go from a known position."""
    if not isinstance(value, list):
        return None
    table = copy_of(position)
    for move in value:
        if not can_move(rules, table, move):
            return None
        make_move(table, move)
    return table


def can_go(rules, position, value):
    """Whether a value is a game of which each move is possible when its turn comes."""
    check_position(rules, position)
    return position_after(rules, position, value) is not None


def after(rules, position, game):
    """The position behind a game that can go."""
    check_position(rules, position)
    table = position_after(rules, position, game)
    if table is None:
        raise InvalidGame(game)
    return table
