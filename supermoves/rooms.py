"""What a position has free for a supermove, and in how few moves it goes."""

from supermoves.bars import needed_tops
from supermoves.capacity import least_cells, least_empty, passes
from supermoves.cards import goes_on
from supermoves.errors import InvalidSupermove, Stuck
from supermoves.positions import check_position, fits_supermove, run_of
from supermoves.tops import Costs, steps_beside


def lowest_of(position, supermove):
    """The lowest of the cards that go over."""
    start, _, many = supermove
    return position[0][start][-many]


def makes_sense(rules, position, supermove):
    """Whether a supermove of a known position is sensible."""
    start, goal, many = supermove
    columns = position[0]
    if not columns[goal]:
        return many < len(columns[start])
    return goes_on(rules, lowest_of(position, supermove), columns[goal][-1])


def check_supermove(rules, position, supermove):
    """Refuse wrong rules and positions, then what is no supermove."""
    check_position(rules, position)
    if not fits_supermove(rules, position, supermove):
        raise InvalidSupermove(supermove)


def is_sensible(rules, position, supermove):
    """Whether a supermove is sensible."""
    check_supermove(rules, position, supermove)
    return makes_sense(rules, position, supermove)


def check_sensible(rules, position, supermove):
    """Refuse wrong rules and positions, then what is no sensible supermove."""
    check_supermove(rules, position, supermove)
    if not makes_sense(rules, position, supermove):
        raise InvalidSupermove(supermove)


def numbers_free(position):
    """The tuple of two lists of the numbers of the free cells and of the empty columns."""
    columns, cells, _ = position
    free = [number for number, card in enumerate(cells) if card is None]
    return (free, [number for number, column in enumerate(columns) if not column])


def helping_columns(rules, position, supermove, card):
    """The list of the numbers of the columns that help: their tops take a card, told by its number."""
    start, goal, _ = supermove
    columns = position[0]
    moved = columns[start][-card]
    return [number for number, column in enumerate(columns)
            if column and number not in (start, goal) and goes_on(rules, moved, column[-1])]


def kind_beside(position, supermove):
    """The kind of moving of a sensible supermove of a known position."""
    start, goal, many = supermove
    if not position[0][goal]:
        return "into"
    return "whole" if len(position[0][start]) == many else "over"


def room_beside(rules, position, supermove):
    """The tuple of the kind and the room of a sensible supermove of a known position."""
    cells, empty = numbers_free(position)
    tops = [card for card in range(1, supermove[2]) if helping_columns(rules, position, supermove, card)]
    return (kind_beside(position, supermove), (len(cells), len(empty), tops))


def room_of(rules, position, supermove):
    """The tuple of the kind and the room of a sensible supermove."""
    check_sensible(rules, position, supermove)
    return room_beside(rules, position, supermove)


def moves_beside(costs, rules, position, supermove):
    """The least number of single moves of a sensible supermove, None if it can not be done."""
    kind, room = room_beside(rules, position, supermove)
    return steps_beside(costs, kind, room, supermove[2])


def fewest_moves(rules, position, supermove):
    """The least number of single moves that do a sensible supermove, None if it can not be done."""
    check_sensible(rules, position, supermove)
    return moves_beside(Costs(), rules, position, supermove)


def supermoves_between(rules, position, start, goal):
    """The list, in order, of the sensible supermoves of a known position from one column to another one."""
    if start == goal:
        return []
    tried = [(start, goal, many) for many in range(1, run_of(rules, position[0][start]) + 1)]
    return [supermove for supermove in tried if makes_sense(rules, position, supermove)]


def all_supermoves(rules, position):
    """The list, in order, of tuples of each sensible supermove that can be done and of its fewest moves."""
    check_position(rules, position)
    costs = Costs()
    numbers = range(len(position[0]))
    tried = [supermove for start in numbers for goal in numbers
             for supermove in supermoves_between(rules, position, start, goal)]
    told = [(supermove, moves_beside(costs, rules, position, supermove)) for supermove in tried]
    return [(supermove, moves) for supermove, moves in told if moves is not None]


def lacking(rules, position, supermove):
    """The tuple of how many free cells more, and how many empty columns more, are at least enough."""
    check_sensible(rules, position, supermove)
    kind, (cells, empty, tops) = room_beside(rules, position, supermove)
    many = supermove[2]
    # Into an empty column there is one at least, its goal: so some number of cells is always enough.
    more_cells = least_cells(kind, empty, tops, many) - cells
    more_columns = least_empty(kind, cells, tops, many) - empty
    return (max(0, more_cells), max(0, more_columns))


def goes_over(rules, position, supermove):
    """Whether a sensible supermove of a known position can be done."""
    kind, room = room_beside(rules, position, supermove)
    return passes(kind, room, supermove[2])


def can_be_done(rules, position, value):
    """Whether a value is a sensible supermove of a known position that can be done."""
    if not fits_supermove(rules, position, value) or not makes_sense(rules, position, value):
        return False
    return goes_over(rules, position, value)


def check_doable(rules, position, supermove):
    """Refuse what is no sensible supermove, then one that can not be done."""
    check_sensible(rules, position, supermove)
    if not goes_over(rules, position, supermove):
        raise Stuck(supermove)


def spoilers(rules, position, supermove):
    """The list, in order, of the places that must not be filled or covered."""
    check_doable(rules, position, supermove)
    kind, (cells, empty, tops) = room_beside(rules, position, supermove)
    goal, many = supermove[1:]
    free, columns = numbers_free(position)
    places = []
    if cells > 0 and not passes(kind, (cells - 1, empty, tops), many):
        places.extend([("cell", number) for number in free])
    if empty > 0 and not passes(kind, (cells, empty - 1, tops), many):
        places.extend([("column", number) for number in columns if number != goal])
    for card in needed_tops(kind, (cells, empty, tops), many):
        helping = helping_columns(rules, position, supermove, card)
        if len(helping) == 1:
            places.append(("column", helping[0]))
    return sorted(places)


def back_of(rules, position, supermove):
    """The supermove that takes the same cards back in the position behind, None if it is not sensible there."""
    check_doable(rules, position, supermove)
    start, goal, many = supermove
    beneath = position[0][start][:-many]
    if beneath and not goes_on(rules, lowest_of(position, supermove), beneath[-1]):
        return None
    return (goal, start, many)
