"""Games of which stretches are told as supermoves."""

from supermoves.errors import InvalidGame
from supermoves.games import checked_tables, sign_of_move
from supermoves.going import fewest_game, may_move, moved_over
from supermoves.moves import can_move, copy_of, position_behind
from supermoves.positions import check_position, fits_move, fits_supermove
from supermoves.rooms import can_be_done, makes_sense
from supermoves.texts import sign_of_place
from supermoves.tops import Costs


def supermove_between(rules, ahead, behind):
    """The sensible supermove behind which one known position is another one, None if there is none."""
    if ahead[1:] != behind[1:]:
        return None
    grown = [len(after) - len(before) for before, after in zip(ahead[0], behind[0])]
    many = max(grown)
    supermove = (grown.index(min(grown)), grown.index(many), many)
    if not fits_supermove(rules, ahead, supermove) or not makes_sense(rules, ahead, supermove):
        return None
    return supermove if moved_over(ahead, supermove) == behind else None


def supermove_in(rules, told, game, low, high):
    """The supermove that the moves of a game from low to ahead of high are, None if they are none."""
    supermove = supermove_between(rules, told[low], told[high])
    if supermove is None:
        return None
    fitting = [may_move(rules, told[low], supermove, told[at], game[at]) for at in range(low, high)]
    return supermove if all(fitting) else None


def supermove_of(rules, position, game):
    """The supermove that a game is, None if there is none."""
    told = checked_tables(rules, position, game)
    return supermove_in(rules, told, game, 0, len(game))


def stretches_in(rules, told, game):
    """For each number of a move, the list of tuples of each supermove that begins with it and of where it ends."""
    last = len(game)
    ends = [[(supermove_in(rules, told, game, low, high), high) for high in range(low + 2, last + 1)]
            for low in range(last)]
    return [[row for row in rows if row[0] is not None] for rows in ends]


def fewest_items(stretches):
    """For each number of a move, and behind the last one, the fewest items into which the moves from it on fold."""
    fewest = [0] * (len(stretches) + 1)
    for low in reversed(range(len(stretches))):
        ends = [low + 1] + [high for _, high in stretches[low]]
        fewest[low] = 1 + min([fewest[high] for high in ends])
    return fewest


def folded(rules, position, game):
    """Any long game with as few items as a game folds into."""
    stretches = stretches_in(rules, checked_tables(rules, position, game), game)
    fewest = fewest_items(stretches)
    items = []
    at = 0
    while at < len(game):
        ways = [(game[at], at + 1)] + stretches[at]
        item, at = [way for way in ways if fewest[way[1]] + 1 == fewest[at]][0]
        items.append(item)
    return items


def ends_of(rules, table, game, stretches, at, item):
    """The list of the numbers to which an item leads in what a game folds into, from a number and its position on."""
    # A Boolean is equal to a number: so it is asked first whether this is a move, or a supermove, at all.
    if at < len(game) and fits_move(table, item):
        return [at + 1] if item == game[at] else []
    if at < len(game) and fits_supermove(rules, table, item):
        return [high for supermove, high in stretches[at] if supermove == item]
    return []


def is_folded(rules, position, game, value):
    """Whether a value is a long game with as few items as a game folds into."""
    told = checked_tables(rules, position, game)
    stretches = stretches_in(rules, told, game)
    if not isinstance(value, list) or len(value) != fewest_items(stretches)[0]:
        return False
    reached = [0]
    for item in value:
        ends = [high for at in reached for high in ends_of(rules, told[at], game, stretches, at, item)]
        reached = sorted(set(ends))
    return len(game) in reached


def long_tables(rules, position, value):
    """The list of the positions of a long game, None if the value is none that can go from a known position."""
    if not isinstance(value, list):
        return None
    told = [copy_of(position)]
    for item in value:
        if can_move(rules, told[-1], item):
            told.append(position_behind(told[-1], item))
        elif can_be_done(rules, told[-1], item):
            told.append(moved_over(told[-1], item))
        else:
            return None
    return told


def checked_long(rules, position, long):
    """The list of the positions of a long game; wrong arguments are refused."""
    check_position(rules, position)
    told = long_tables(rules, position, long)
    if told is None:
        raise InvalidGame(long)
    return told


def is_single(item):
    """Whether an item of a long game is a move, and no supermove."""
    return len(item) == 2


def sign_of_item(item):
    """The text of an item of a long game."""
    if is_single(item):
        return sign_of_move(item)
    start, goal, many = item
    return sign_of_place(("column", start)) + sign_of_place(("column", goal)) + f"x{many}"


def text_of_long(rules, position, long):
    """The texts of the items of a long game, with a blank between neighbouring ones."""
    checked_long(rules, position, long)
    return " ".join([sign_of_item(item) for item in long])


def after_long(rules, position, long):
    """The position behind a long game."""
    return checked_long(rules, position, long)[-1]


def unfolded(rules, position, long):
    """Any game that comes of a long one by doing each supermove of it by the fewest single moves."""
    told = checked_long(rules, position, long)
    costs = Costs()
    game = []
    for table, item in zip(told, long):
        game = game + ([item] if is_single(item) else fewest_game(costs, rules, table, item))
    return game
