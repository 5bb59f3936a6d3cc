"""Positions that are alike: the same but for the orders of their columns and cells."""

from math import perm

from supermoves.errors import Stuck
from supermoves.moves import check_possible, copy_of
from supermoves.positions import check_position


def cards_in_cells(position):
    """The list of the cards in the cells of a known position, in order."""
    return sorted([card for card in position[1] if card is not None])


def least_of(position):
    """The least of all positions that are alike with a known one, none of whose lists it shares."""
    columns, cells, homes = position
    held = cards_in_cells(position)
    return copy_of((sorted(columns), held + [None] * (len(cells) - len(held)), homes))


def check_both(rules, position, other):
    """Refuse what are no rules, then what are no positions of them."""
    check_position(rules, position)
    check_position(rules, other)


def are_alike(rules, position, other):
    """Whether two positions are alike."""
    check_both(rules, position, other)
    return least_of(position) == least_of(other)


def least_alike(rules, position):
    """The least of all positions that are alike with one."""
    check_position(rules, position)
    return least_of(position)


def how_many_alike(rules, position):
    """How many positions are alike with one, itself among them."""
    check_position(rules, position)
    columns, cells, _ = position
    full = [column for column in columns if column]
    return perm(len(columns), len(full)) * perm(len(cells), len(cards_in_cells(position)))


def order_of(things, others):
    """For each of the others the number of a thing that is equal, of equal things the first one first."""
    left = list(range(len(things)))
    numbers = []
    for other in others:
        number = min([at for at in left if things[at] == other])
        left.remove(number)
        numbers.append(number)
    return numbers


def orders_between(position, other):
    """What order_to tells of two positions, None if they are not alike."""
    if least_of(position) != least_of(other):
        return None
    return (order_of(position[0], other[0]), order_of(position[1], other[1]))


def order_to(rules, position, other):
    """The orders in which the columns and the cells of a position are those of the other one."""
    check_both(rules, position, other)
    return orders_between(position, other)


def place_there(orders, place):
    """The place in the other position that is this one here."""
    columns, cells = orders
    sort, number = place
    if sort == "column":
        return (sort, columns.index(number))
    return (sort, cells.index(number)) if sort == "cell" else place


def carried(rules, position, other, move):
    """The move of the other position that does there what a possible move does here."""
    check_both(rules, position, other)
    check_possible(rules, position, move)
    orders = orders_between(position, other)
    if orders is None:
        raise Stuck(other)
    start, goal = move
    return (place_there(orders, start), place_there(orders, goal))
