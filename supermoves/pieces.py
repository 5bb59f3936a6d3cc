"""Price lists for all numbers of cells at once."""

from math import gcd

from supermoves.capacity import bound_beside, cells_beside, fewest_empty
from supermoves.checks import check_from, is_within
from supermoves.errors import InvalidNumber
from supermoves.positions import check_kind
from supermoves.prices import rows_beside, sum_of_least

MOST_EMPTY = 7
# With so many cells, and up to so many empty columns, each further cell changes a price list by the same.
MANY_CELLS = 64


def check_columns(kind, empty):
    """Refuse what is no kind, then what is no number of empty columns for it."""
    check_kind(kind)
    most = MOST_EMPTY - 1 if kind == "whole" else MOST_EMPTY
    if not is_within(empty, fewest_empty(kind), most):
        raise InvalidNumber(empty)


def rows_from(kind, empty):
    """The rows that tell the price lists from some number of cells on."""
    here = rows_beside(kind, MANY_CELLS, empty)
    more = rows_beside(kind, MANY_CELLS + 1, empty)
    # There are the same prices in both lists.
    told = [(price, many, later - many) for (price, many), (_, later) in zip(here, more)]
    return [(price, many - each * MANY_CELLS, each) for price, many, each in told]


def told_for(rows, cells):
    """The price list that rows tell for a number of cells, where a number may be below 0."""
    told = [(price, number + each * cells) for price, number, each in rows]
    return [(price, many) for price, many in told if many != 0]


def are_right(rows, kind, empty, cells):
    """Whether rows tell the price list of a number of cells."""
    return told_for(rows, cells) == rows_beside(kind, cells, empty)


def least_right(rows, kind, empty):
    """The least number of cells from which on rows tell all price lists."""
    least = MANY_CELLS
    while least > 0 and are_right(rows, kind, empty, least - 1):
        least -= 1
    return least


def rows_of(kind, empty):
    """The tuple of the least number of cells from which on rows tell all price lists, and of the list of them."""
    check_columns(kind, empty)
    rows = rows_from(kind, empty)
    return (least_right(rows, kind, empty), rows)


def rows_hold(kind, empty, cells):
    """Whether the rows tell the price list of a number of cells."""
    check_columns(kind, empty)
    check_from(cells, 0)
    return are_right(rows_from(kind, empty), kind, empty, cells)


def steps_by_rows(kind, empty, cells, many):
    """The sum of so many least prices that the rows tell, None if they tell fewer, or less than 0 of one."""
    check_columns(kind, empty)
    check_from(cells, 0)
    check_from(many, 1)
    told = told_for(rows_from(kind, empty), cells)
    return sum_of_least(told, many) if all([number > 0 for _, number in told]) else None


def cost_line(kind, empty):
    """The tuple of the least number of cells of the rows, and of how the fewest steps of the greatest run go on."""
    least, rows = rows_of(kind, empty)
    return (least, sum([price * number for price, number, _ in rows]), sum([price * each for price, _, each in rows]))


def mean_price(kind, empty):
    """The steps for each card, in lowest terms, to which the greatest run comes with more and more cells."""
    check_columns(kind, empty)
    steps = sum([price * each for price, _, each in rows_from(kind, empty)])
    cards = bound_beside(kind, 0, empty)
    common = gcd(steps, cards)
    return (steps // common, cards // common)


def cells_for(kind, empty, many):
    """The least number of cells with which so many cards go over."""
    check_columns(kind, empty)
    check_from(many, 1)
    return cells_beside(kind, empty, many)


def cells_within(kind, empty, many, steps):
    """The least number of cells with which so many cards go over in at most so many steps, None if none are enough."""
    check_columns(kind, empty)
    check_from(many, 1)
    check_from(steps, 0)
    if steps < 2 * many - 1:
        return None
    # With a cell for each card but the last one it is enough; more cells never make it dearer.
    low, high = cells_beside(kind, empty, many), many - 1
    while low < high:
        middle = (low + high) // 2
        if sum_of_least(rows_beside(kind, middle, empty), many) <= steps:
            high = middle
        else:
            low = middle + 1
    return low


def how_many_at(kind, empty, price):
    """The tuple of the two numbers of the row with a price, both 0 if there is none."""
    check_columns(kind, empty)
    check_from(price, 1)
    return {row[0]: row[1:] for row in rows_from(kind, empty)}.get(price, (0, 0))
