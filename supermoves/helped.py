"""In which pieces a run is parked, and what further helping tops are worth."""

from itertools import combinations

from supermoves.capacity import check_run
from supermoves.checks import check_from, is_from, is_tuple_of, is_within
from supermoves.errors import InvalidPlan
from supermoves.tops import Costs, first_pieces, left_behind, signs_of, steps_beside

PIECE_PLACES = ("cell", "column", "top")


def is_piece(value, low):
    """Whether a value is a piece whose first card is this one."""
    if not is_tuple_of(value, 3):
        return False
    place, first, last = value
    # A place is told by a string, and a Boolean is no number of a card.
    return place in PIECE_PLACES and is_within(first, low, low) and is_from(last, low)


def is_parting(many, value):
    """Whether a value is a parting of so many cards, whatever the room is."""
    if not isinstance(value, list):
        return False
    low = 1
    for piece in value:
        if not is_piece(piece, low):
            return False
        low = piece[2] + 1
    return low == many


def cost_beside(costs, kind, room, parting):
    """The steps by what is known to be a parting, None if the run can not go so."""
    cells, empty, tops = room
    if kind == "into" and empty == 0:
        return None
    total = 1
    for place, low, high in parting:
        signs = signs_of([top - low + 1 for top in tops], high - low + 2)
        if (place, high - low + 1) not in first_pieces(kind, cells, empty, signs):
            return None
        steps = costs.steps_parked(kind, cells, empty, signs[:-1], place)
        if steps is None:
            return None
        total += steps
        cells, empty = left_behind(cells, empty, place)
    return total


def cost_of_parting(kind, room, many, parting):
    """The steps by a parting, None if the run can not go so."""
    check_run(kind, room, many)
    if not is_parting(many, parting):
        raise InvalidPlan(parting)
    return cost_beside(Costs(), kind, room, parting)


def least_beginnings(costs, kind, cells, empty, signs):
    """The list, in order, of what the first piece of a parting with the fewest steps can be."""
    steps = costs.steps_of(kind, cells, empty, signs)
    return [piece for piece in first_pieces(kind, cells, empty, signs)
            if costs.steps_begun(kind, cells, empty, signs, piece) == steps]


def least_parting(costs, kind, cells, empty, signs):
    """The first parting with the fewest steps of a run that can go."""
    parting = []
    low = 1
    while signs:
        place, high = least_beginnings(costs, kind, cells, empty, signs)[0]
        parting.append((place, low, low + high - 1))
        cells, empty = left_behind(cells, empty, place)
        signs = signs[high:]
        low += high
    return parting


def first_parting(kind, room, many):
    """The first, in order, of the partings with the fewest steps, None if the run can not go."""
    check_run(kind, room, many)
    costs = Costs()
    if steps_beside(costs, kind, room, many) is None:
        return None
    cells, empty, tops = room
    return least_parting(costs, kind, cells, empty, signs_of(tops, many))


def is_least_parting(kind, room, many, value):
    """Whether a value is a parting with the fewest steps."""
    check_run(kind, room, many)
    costs = Costs()
    steps = steps_beside(costs, kind, room, many)
    return steps is not None and is_parting(many, value) and cost_beside(costs, kind, room, value) == steps


def count_partings(costs, counts, kind, cells, empty, signs):
    """How many partings with the fewest steps a run that can go has; counts keeps what is known of it."""
    if not signs:
        return 1
    key = (cells, empty, signs)
    if key not in counts:
        many = 0
        for place, high in least_beginnings(costs, kind, cells, empty, signs):
            free, columns = left_behind(cells, empty, place)
            many += count_partings(costs, counts, kind, free, columns, signs[high:])
        counts[key] = many
    return counts[key]


def how_many_partings(kind, room, many):
    """How many partings with the fewest steps there are."""
    check_run(kind, room, many)
    costs = Costs()
    if steps_beside(costs, kind, room, many) is None:
        return 0
    cells, empty, tops = room
    return count_partings(costs, {}, kind, cells, empty, signs_of(tops, many))


def further_tops(room, many):
    """The list, in order, of the further helping tops that could be of use."""
    return [top for top in range(1, many) if top not in room[2]]


def steps_with(costs, kind, room, many, lot):
    """The fewest steps with a lot of further helping tops besides, None if the run can not go."""
    cells, empty, tops = room
    return steps_beside(costs, kind, (cells, empty, tops + list(lot)), many)


def best_top(kind, room, many):
    """The tuple of the further helping top that helps most, the first of such, and of the fewest steps with it."""
    check_run(kind, room, many)
    costs = Costs()
    steps = steps_beside(costs, kind, room, many)
    tried = [(steps_with(costs, kind, room, many, [top]), top) for top in further_tops(room, many)]
    helping = [(told, top) for told, top in tried if told is not None and (steps is None or told < steps)]
    if not helping:
        return None
    told, top = min(helping)
    return (top, told)


def first_lot(costs, kind, room, many, most, number):
    """The first list of just so many further helping tops with which the run goes in at most so many steps."""
    free = further_tops(room, many)
    for lot in combinations(free, number):
        steps = steps_with(costs, kind, room, many, lot)
        if steps is not None and steps <= most:
            return list(lot)
    return None


def tops_within(kind, room, many, most):
    """The first of the shortest lists of further helping tops with which the run goes in at most so many steps."""
    check_run(kind, room, many)
    check_from(most, 0)
    # Each card but the last one goes at least twice: no tops make it less.
    if most < 2 * many - 1 or kind == "into" and room[1] == 0:
        return None
    costs = Costs()
    number = 0
    lot = first_lot(costs, kind, room, many, most, number)
    while lot is None:
        number += 1
        lot = first_lot(costs, kind, room, many, most, number)
    return lot
