"""Small decks: all that comes from a position, gone through sort by sort."""

from supermoves.alike import cards_in_cells, check_both
from supermoves.errors import TooMany
from supermoves.moves import copy_of, moves_in, position_after, position_behind
from supermoves.positions import cards_about, check_position, fits_rules

MOST_SORTS = 1000


def sort_of(position):
    """What is the same for two known positions of the same rules exactly if they are alike."""
    columns, cells, _ = position
    # The homes hang on all other cards.
    return (tuple(sorted([tuple(column) for column in columns])), tuple(cards_in_cells(position)), len(cells))


def moves_apart(rules, position):
    """The list of the possible moves of a known position, of those to like places only the one to the first."""
    columns, cells, _ = position
    free = [("cell", number) for number, card in enumerate(cells) if card is None]
    empty = [("column", number) for number, column in enumerate(columns) if not column]
    later = free[1:] + empty[1:]
    return [move for move in moves_in(rules, position) if move[1] not in later]


class Sorts:
    """The sorts that come from a position, told by numbers, 0 for its own; the greater number has no less distance.

    Of each sort it keeps one position, which a game of the fewest moves leads to, and how this game ends.
    """

    def __init__(self, position):
        self.tables = [copy_of(position)]
        self.distances = [0]
        self.ways = [None]
        self.numbers = {sort_of(position): 0}
        self.came_from = [[]]

    def number_of(self, position):
        """The number of the sort of a position, None if none of it comes."""
        return self.numbers.get(sort_of(position))

    def take_in(self, number, move):
        """Take in the sort that a possible move leads to from the kept position of a sort."""
        behind = position_behind(self.tables[number], move)
        sort = sort_of(behind)
        if sort not in self.numbers:
            if len(self.tables) == MOST_SORTS:
                raise TooMany(MOST_SORTS + 1)
            self.numbers[sort] = len(self.tables)
            self.tables.append(behind)
            self.distances.append(self.distances[number] + 1)
            self.ways.append((number, move))
            self.came_from.append([])
        self.came_from[self.numbers[sort]].append(number)

    def game_to(self, number):
        """A game of the fewest moves that leads to the kept position of a sort."""
        game = []
        while number > 0:
            number, move = self.ways[number]
            game.append(move)
        return game[::-1]


def sorts_from(rules, position):
    """All sorts that come from a known position; too many of them are refused."""
    sorts = Sorts(position)
    number = 0
    while number < len(sorts.tables):
        moves = moves_apart(rules, sorts.tables[number])
        for move in moves:
            sorts.take_in(number, move)
        number += 1
    return sorts


def checked_sorts(rules, position):
    """All sorts that come from a position; wrong arguments, and then too many sorts, are refused."""
    check_position(rules, position)
    return sorts_from(rules, position)


def moves_to_win(sorts):
    """The list of the least numbers of moves behind which all is won from each sort, None where it can't be won."""
    least = [None] * len(sorts.tables)
    layer = [number for number, table in enumerate(sorts.tables) if not cards_about(table)]
    moves = 0
    while layer:
        for number in layer:
            least[number] = moves
        ahead = [other for one in layer for other in sorts.came_from[one] if least[other] is None]
        layer = sorted(set(ahead))
        moves += 1
    return least


def how_many_come(rules, position):
    """How many sorts of positions come from one, its own included."""
    return len(checked_sorts(rules, position).tables)


def by_distance(rules, position):
    """The list of how many sorts have each distance, up to the greatest one."""
    distances = checked_sorts(rules, position).distances
    return [distances.count(moves) for moves in range(distances[-1] + 1)]


def moves_between(rules, position, other):
    """The distance of the sort of another position, None if none of it comes."""
    check_both(rules, position, other)
    sorts = sorts_from(rules, position)
    number = sorts.number_of(other)
    return None if number is None else sorts.distances[number]


def game_between(rules, position, other):
    """Any game of the fewest moves that leads to a position alike another one, None if there is none."""
    check_both(rules, position, other)
    sorts = sorts_from(rules, position)
    number = sorts.number_of(other)
    return None if number is None else sorts.game_to(number)


def least_moves(rules, position):
    """The least number of moves of a game behind which all is won, None if there is none."""
    return moves_to_win(checked_sorts(rules, position))[0]


def shortest_game(rules, position):
    """Any game of the fewest moves behind which all is won, None if there is none."""
    sorts = checked_sorts(rules, position)
    least = moves_to_win(sorts)
    return sorts.game_to(least.index(0)) if 0 in least else None


def is_shortest_game(rules, position, value):
    """Whether a value is a game of the fewest moves behind which all is won."""
    moves = moves_to_win(checked_sorts(rules, position))[0]
    if moves is None or not isinstance(value, list) or len(value) != moves:
        return False
    table = position_after(rules, position, value)
    return table is not None and not cards_about(table)


def closed_set(rules, position):
    """Any closed set of a position, no two positions of it alike, None if there is none."""
    sorts = checked_sorts(rules, position)
    return sorts.tables if moves_to_win(sorts)[0] is None else None


def is_closed_set(rules, position, value):
    """Whether a value is a closed set of a position, perhaps with some alike."""
    check_position(rules, position)
    if not isinstance(value, list) or not all([fits_rules(rules, table) for table in value]):
        return False
    # Of alike positions one is enough.
    known = {sort_of(table): table for table in value}
    if sort_of(position) not in known or not all([cards_about(table) for table in value]):
        return False
    return all([sort_of(position_behind(table, move)) in known
                for table in list(known.values()) for move in moves_apart(rules, table)])


def moves_told(rules, position):
    """The least number of moves to win, and the list of tuples of each possible move and of this number behind it."""
    sorts = checked_sorts(rules, position)
    least = moves_to_win(sorts)
    told = [(move, least[sorts.number_of(position_behind(position, move))]) for move in moves_in(rules, position)]
    return (least[0], told)


def good_moves(rules, position):
    """The list, in order, of the possible moves with which shortest games begin."""
    moves, told = moves_told(rules, position)
    return [move for move, left in told if left is not None and left + 1 == moves]


def losing_moves(rules, position):
    """The list, in order, of the possible moves behind which it can't be won any more."""
    moves, told = moves_told(rules, position)
    return [move for move, left in told if left is None and moves is not None]


def is_lost(rules, position):
    """Whether it can't be won."""
    return moves_to_win(checked_sorts(rules, position))[0] is None


def won_and_lost(rules, position):
    """The tuple of how many of the sorts that come can be won, and how many can't."""
    least = moves_to_win(checked_sorts(rules, position))
    lost = least.count(None)
    return (len(least) - lost, lost)


def deepest(rules, position):
    """The greatest of the least numbers of moves of the sorts that can be won, None if none can."""
    least = moves_to_win(checked_sorts(rules, position))
    return max([moves for moves in least if moves is not None], default=None)


def lost_game(rules, position):
    """Any game of the fewest moves behind which it can't be won, None if all that comes can be won."""
    sorts = checked_sorts(rules, position)
    least = moves_to_win(sorts)
    # The first of them has the least distance.
    return sorts.game_to(least.index(None)) if None in least else None
