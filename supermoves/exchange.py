"""Rooms that are enough for a run, and which of them are the cheapest."""

from supermoves.capacity import fewest_empty, trades
from supermoves.checks import check_from
from supermoves.positions import check_kind, check_tops
from supermoves.tops import Costs, steps_beside


def check_wanted(kind, tops, many, bound):
    """Refuse what is no kind, then what are no tops, no number of cards, no bound."""
    check_kind(kind)
    check_tops(tops)
    check_from(many, 1)
    if bound is not None:
        check_from(bound, 0)


def goes_within(costs, kind, room, many, bound):
    """Whether a run goes in a known room in at most so many steps."""
    steps = steps_beside(costs, kind, room, many)
    return steps is not None and steps <= bound


def fewest_cells(costs, kind, room, many, bound):
    """The least number of cells, at most those of a room that is enough, with which the rest of it is enough."""
    cells, empty, tops = room
    while cells > 0 and goes_within(costs, kind, (cells - 1, empty, tops), many, bound):
        cells -= 1
    return cells


def rooms_within(kind, tops, many, bound):
    """The list, cells ascending, of the least rooms that are enough for so many steps, None for any number."""
    if bound is None:
        return trades(kind, tops, many)
    # Each card but the last one goes at least twice.
    if bound < 2 * many - 1:
        return []
    costs = Costs()
    empty = fewest_empty(kind)
    # So many cells take each card but the last one by itself: no card has to go more than twice then.
    found = [(fewest_cells(costs, kind, (many - 1, empty, tops), many, bound), empty)]
    while found[-1][0] > 0:
        empty += 1
        cells = fewest_cells(costs, kind, (found[-1][0], empty, tops), many, bound)
        if cells < found[-1][0]:
            found.append((cells, empty))
    return found[::-1]


def least_rooms(kind, tops, many, bound):
    """The list, cells ascending, of all tuples of cells and empty columns that are enough, neither with one fewer."""
    check_wanted(kind, tops, many, bound)
    return rooms_within(kind, tops, many, bound)


def cheapest_room(kind, tops, many, bound, cell_price, column_price):
    """The first tuple of the least price and of cells and empty columns that are enough, None if there is none."""
    check_wanted(kind, tops, many, bound)
    check_from(cell_price, 0)
    check_from(column_price, 0)
    # Each room that is enough has one of the least ones within it, which is no dearer and no later in order.
    told = [(cells * cell_price + empty * column_price, cells, empty)
            for cells, empty in rooms_within(kind, tops, many, bound)]
    return min(told, default=None)
