"""How many cards can go over, and what bars more."""

from supermoves.checks import check_from, is_tuple_of, is_whole
from supermoves.positions import check_kind, check_room, check_tops


def check_run(kind, room, many):
    """Refuse what is no kind, then what is no room, then what is no number of cards."""
    check_kind(kind)
    check_room(room)
    check_from(many, 1)


def bound_beside(kind, cells, empty):
    """How many cards a stretch can have beside so many free cells and empty columns."""
    if kind != "into":
        return (cells + 1) << empty
    # The goal is one of the empty columns: it can not help, and there is no way without it.
    return (cells + 1) << (empty - 1) if empty > 0 else 0


def bound_of(kind, room):
    """The bound of what are known to be a kind and a room."""
    cells, empty, _ = room
    return bound_beside(kind, cells, empty)


def bound(kind, room):
    """How many cards a stretch can have at most."""
    check_kind(kind)
    check_room(room)
    return bound_of(kind, room)


def marks_of(tops, many):
    """The list of the marks of so many cards, in order."""
    return [0] + [top for top in tops if top < many] + [many]


def stretches_of(tops, many):
    """The list of the stretches of so many cards, in order."""
    marks = marks_of(tops, many)
    return [(low, high) for low, high in zip(marks, marks[1:])]


def longest_of(tops, many):
    """How many cards the longest stretch of so many cards has."""
    return max([high - low for low, high in stretches_of(tops, many)])


def bars_of(kind, room, many):
    """The list, in order, of the stretches that have more cards than the bound."""
    most = bound_of(kind, room)
    return [(low, high) for low, high in stretches_of(room[2], many) if high - low > most]


def passes(kind, room, many):
    """Whether so many cards can go over, the arguments known to be right."""
    return longest_of(room[2], many) <= bound_of(kind, room)


def can_pass(kind, room, many):
    """Whether so many cards can go over."""
    check_run(kind, room, many)
    return passes(kind, room, many)


def greatest_reached(kind, room, further):
    """The greatest number of cards that can go with so many further tops, wherever they help most."""
    most = bound_of(kind, room)
    if most == 0:
        return 0
    mark = 0
    for top in room[2]:
        wanted = (top - mark - 1) // most
        if wanted > further:
            break
        further -= wanted
        mark = top
    return mark + (further + 1) * most


def greatest(kind, room):
    """The greatest number of cards that can go over, 0 if not even one can."""
    check_kind(kind)
    check_room(room)
    return greatest_reached(kind, room, 0)


def barring(kind, room, many):
    """The list, in order, of the stretches that bar so many cards."""
    check_run(kind, room, many)
    return bars_of(kind, room, many)


def first_bar(kind, room, many):
    """The first stretch that bars so many cards, None if there is none."""
    check_run(kind, room, many)
    bars = bars_of(kind, room, many)
    return bars[0] if bars else None


def is_bar(kind, room, many, value):
    """Whether a value is a stretch that bars so many cards."""
    check_run(kind, room, many)
    if not is_tuple_of(value, 2):
        return False
    # A Boolean is equal to a number, but no mark.
    return is_whole(value[0]) and is_whole(value[1]) and value in bars_of(kind, room, many)


def cells_beside(kind, empty, longest):
    """The least number of free cells for a longest stretch; into an empty column there has to be one."""
    return (longest - 1) // bound_beside(kind, 0, empty)


def least_cells(kind, empty, tops, many):
    """The least number of free cells that is enough, None if none is."""
    check_kind(kind)
    check_from(empty, 0)
    check_tops(tops)
    check_from(many, 1)
    if kind == "into" and empty == 0:
        return None
    return cells_beside(kind, empty, longest_of(tops, many))


def fewest_empty(kind):
    """The least number of empty columns with which anything can go."""
    return 1 if kind == "into" else 0


def least_empty(kind, cells, tops, many):
    """The least number of empty columns that is enough."""
    check_kind(kind)
    check_from(cells, 0)
    check_tops(tops)
    check_from(many, 1)
    longest = longest_of(tops, many)
    empty = fewest_empty(kind)
    while bound_beside(kind, cells, empty) < longest:
        empty += 1
    return empty


def trades(kind, tops, many):
    """The list, in order, of all tuples of cells and empty columns of which neither can be less."""
    check_kind(kind)
    check_tops(tops)
    check_from(many, 1)
    longest = longest_of(tops, many)
    empty = fewest_empty(kind)
    found = [(cells_beside(kind, empty, longest), empty)]
    # As long as any cell is wanted, one empty column more makes fewer do.
    while found[-1][0] > 0:
        empty += 1
        found.append((cells_beside(kind, empty, longest), empty))
    return found[::-1]
