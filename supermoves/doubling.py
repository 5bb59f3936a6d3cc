"""Price lists beside each other, and beside that of the usual way."""

from math import comb

from supermoves.checks import check_from
from supermoves.prices import Walk, check_beside, rows_beside, sum_of_least


def same_prices(kind, cells, empty, other_kind, other_cells, other_empty):
    """Whether the fewest steps are the same in both rooms for every number of cards."""
    check_beside(kind, cells, empty)
    check_beside(other_kind, other_cells, other_empty)
    return rows_beside(kind, cells, empty) == rows_beside(other_kind, other_cells, other_empty)


def doubling_rows(kind, cells, empty):
    """The price list of the usual way, as rows."""
    columns = empty - 1 if kind == "into" else empty
    rows = [(1, 1)]
    for power in range(1, columns + 2):
        rows.append((1 << power, cells * comb(columns, power - 1) + comb(columns, power)))
    return [row for row in rows if row[1] > 0]


def doubling(kind, cells, empty):
    """The price list of the usual way, tuples of each price and of how many there are, ascending."""
    check_beside(kind, cells, empty)
    return doubling_rows(kind, cells, empty)


def first_unlike(rows, others):
    """The first place, counted from 1, at which two price lists of one length differ, None if they are equal."""
    one, other = Walk(rows), Walk(others)
    place = 1
    while not one.is_over() and one.price() == other.price():
        together = min(one.left(), other.left())
        one.go_on(together)
        other.go_on(together)
        place += together
    return None if one.is_over() else place


def cheaper_from(kind, cells, empty):
    """The least number of cards with fewer steps than the usual way has, None if there is none."""
    check_beside(kind, cells, empty)
    # No sum of the doubling list is less: so the first price that differs is the first one that saves.
    return first_unlike(rows_beside(kind, cells, empty), doubling_rows(kind, cells, empty))


def saved(kind, cells, empty, many):
    """By how many steps so many cards are cheaper than the usual way, None if they can not go."""
    check_beside(kind, cells, empty)
    check_from(many, 1)
    steps = sum_of_least(rows_beside(kind, cells, empty), many)
    return None if steps is None else sum_of_least(doubling_rows(kind, cells, empty), many) - steps


def whole_cost(kind, cells, empty):
    """The tuple of the greatest run and its fewest steps."""
    check_beside(kind, cells, empty)
    rows = rows_beside(kind, cells, empty)
    greatest_run = sum([many for _, many in rows])
    return (greatest_run, sum_of_least(rows, greatest_run))


def dearest(kind, cells, empty):
    """The greatest price."""
    check_beside(kind, cells, empty)
    return rows_beside(kind, cells, empty)[-1][0]
