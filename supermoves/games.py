"""Games: their positions, their texts, the way back, and games without detours."""

from supermoves.cards import fits_deck
from supermoves.checks import is_tuple_of
from supermoves.errors import InvalidGame, InvalidText
from supermoves.moves import can_move, can_return, copy_of, make_move, moves_in, position_behind
from supermoves.positions import card_from, check_position, spot_of
from supermoves.texts import move_told, sign_of_place


def tables_of(rules, position, value):
    """The list of the positions of a game, None if the value is no game that can go from a known position."""
    if not isinstance(value, list):
        return None
    told = [copy_of(position)]
    for move in value:
        if not can_move(rules, told[-1], move):
            return None
        told.append(position_behind(told[-1], move))
    return told


def checked_tables(rules, position, game):
    """The list of the positions of a game; wrong arguments are refused."""
    check_position(rules, position)
    told = tables_of(rules, position, game)
    if told is None:
        raise InvalidGame(game)
    return told


def positions_of(rules, position, game):
    """The list of the positions ahead of the first move of a game and behind each one."""
    return checked_tables(rules, position, game)


def sign_of_move(move):
    """The text of what is known to be a move."""
    return sign_of_place(move[0]) + sign_of_place(move[1])


def text_of_game(rules, position, game):
    """The texts of the moves of a game, with a blank between neighbouring ones."""
    checked_tables(rules, position, game)
    return " ".join([sign_of_move(move) for move in game])


def game_told(rules, position, text):
    """The game that can go from a known position and has a text, None if there is none."""
    if not isinstance(text, str):
        return None
    table = copy_of(position)
    game = []
    words = text.split(" ") if text else []
    for word in words:
        move = move_told(table, word)
        if not can_move(rules, table, move):
            return None
        make_move(table, move)
        game.append(move)
    return game


def game_of_text(rules, position, text):
    """The game that can go and has a text."""
    check_position(rules, position)
    game = game_told(rules, position, text)
    if game is None:
        raise InvalidText(text)
    return game


def moves_for_good(rules, told, game):
    """The list, in order, of the numbers of the moves of a game that can't be gone back."""
    return [number for number, move in enumerate(game) if not can_return(rules, told[number], move)]


def last_for_good(rules, position, game):
    """The number, from 0 on, of the last move that can't be gone back, None if all can."""
    told = checked_tables(rules, position, game)
    return max(moves_for_good(rules, told, game), default=None)


def way_back(rules, position, game):
    """The game that goes back a game move by move, None if one can't be gone back."""
    told = checked_tables(rules, position, game)
    if moves_for_good(rules, told, game):
        return None
    return [(goal, start) for start, goal in game[::-1]]


def key_of(position):
    """What is the same for two known positions of the same rules exactly if they are equal."""
    columns, cells, _ = position
    # The homes hang on all other cards.
    return (tuple([tuple(column) for column in columns]), tuple(cells))


def shortest_among(rules, told):
    """A game with the fewest moves from the first to the last one of the positions of a game, through no others."""
    known = {key_of(table): True for table in told}
    goal = key_of(told[-1])
    games = {key_of(told[0]): []}
    layer = [told[0]]
    while goal not in games:
        found = []
        for table in layer:
            for move in moves_in(rules, table):
                behind = position_behind(table, move)
                key = key_of(behind)
                if key in known and key not in games:
                    games[key] = games[key_of(table)] + [move]
                    found.append(behind)
        layer = found
    return games[goal]


def shortcut(rules, position, game):
    """Any game with the fewest moves that leads where a game does, and through no other positions."""
    return shortest_among(rules, checked_tables(rules, position, game))


def is_shortcut(rules, position, game, value):
    """Whether a value is a game with the fewest moves that leads where a game does, and through no other positions."""
    told = checked_tables(rules, position, game)
    if not isinstance(value, list) or len(value) != len(shortest_among(rules, told)):
        return False
    through = tables_of(rules, position, value)
    if through is None or through[-1] != told[-1]:
        return False
    known = {key_of(table): True for table in told}
    return all([key_of(table) in known for table in through])


def by_cards(rules, position, game):
    """The list of tuples of the card of each move of a game and of its goal."""
    told = checked_tables(rules, position, game)
    return [(card_from(table, move[0]), move[1]) for table, move in zip(told, game)]


def move_by_card(rules, position, value):
    """The possible move of a known position that a value tells by its card, None if it tells none."""
    if not is_tuple_of(value, 2) or not fits_deck(rules, value[0]):
        return None
    card, goal = value
    move = (spot_of(position, card), goal)
    # A card that lies beneath others stands where another one would be taken from.
    return move if can_move(rules, position, move) and card_from(position, move[0]) == card else None


def game_by_cards(rules, position, told):
    """The game that can go from a known position and is told by cards, None if there is none."""
    if not isinstance(told, list):
        return None
    table = copy_of(position)
    game = []
    for value in told:
        move = move_by_card(rules, table, value)
        if move is None:
            return None
        make_move(table, move)
        game.append(move)
    return game


def by_places(rules, position, told):
    """The game that is told by cards and their goals."""
    check_position(rules, position)
    game = game_by_cards(rules, position, told)
    if game is None:
        raise InvalidGame(told)
    return game
