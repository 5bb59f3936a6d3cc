"""What one thing more is worth to a run, and what is spoiled by one thing less."""

from supermoves.bars import check_passes
from supermoves.capacity import check_run
from supermoves.checks import is_from
from supermoves.errors import InvalidPlace
from supermoves.positions import check_room
from supermoves.tops import Costs, steps_beside


def check_more(more):
    """Refuse what is neither a cell nor a column nor the number of a card."""
    if more not in ("cell", "column") and not is_from(more, 1):
        raise InvalidPlace(more)


def room_with(room, more):
    """The room that comes of a known one by one thing more."""
    cells, empty, tops = room
    if more == "cell":
        return (cells + 1, empty, list(tops))
    if more == "column":
        return (cells, empty + 1, list(tops))
    added = [] if more in tops else [more]
    return (cells, empty, sorted(tops + added))


def with_more(room, more):
    """The room with one free cell, one empty column or one helping top more."""
    check_room(room)
    check_more(more)
    return room_with(room, more)


def saves(kind, room, many, more):
    """The tuple of the fewest steps with the room as it is and with one thing more."""
    check_run(kind, room, many)
    check_more(more)
    costs = Costs()
    return (steps_beside(costs, kind, room, many), steps_beside(costs, kind, room_with(room, more), many))


def last_card(kind, room, many):
    """How many steps more a run needs than that of one card fewer, None if it can not go."""
    check_run(kind, room, many)
    costs = Costs()
    steps = steps_beside(costs, kind, room, many)
    # What can go can also go with one card fewer; no card at all needs no step.
    if steps is None or many == 1:
        return steps
    return steps - steps_beside(costs, kind, room, many - 1)


def things_of(room, many):
    """The list of the sorts of things in a known room that could be of use to so many cards."""
    cells, empty, tops = room
    things = ["cell"] if cells > 0 else []
    if empty > 0:
        things.append("column")
    return things + [top for top in tops if top < many]


def room_without(room, thing):
    """The room that comes of a known one by one thing less."""
    cells, empty, tops = room
    if thing == "cell":
        return (cells - 1, empty, tops)
    if thing == "column":
        return (cells, empty - 1, tops)
    return (cells, empty, [top for top in tops if top != thing])


def losses_in(costs, kind, room, many):
    """The list of tuples of each thing of a known room and of the fewest steps without it."""
    return [(thing, steps_beside(costs, kind, room_without(room, thing), many)) for thing in things_of(room, many)]


def losses(kind, room, many):
    """The list of tuples of each thing and of the fewest steps if it is taken away."""
    check_passes(kind, room, many)
    return losses_in(Costs(), kind, room, many)


def idle(kind, room, many):
    """The list of those things without which, one alone taken away, the fewest steps are the same."""
    check_passes(kind, room, many)
    costs = Costs()
    steps = steps_beside(costs, kind, room, many)
    return [thing for thing, left in losses_in(costs, kind, room, many) if left == steps]


def needed(kind, room, many):
    """The list of those things without which, one alone taken away, the run can not go."""
    check_passes(kind, room, many)
    return [thing for thing, left in losses_in(Costs(), kind, room, many) if left is None]
