"""Which helping tops are wanted, and which further ones would be enough."""

from supermoves.capacity import bound_of, check_run, greatest_reached, marks_of, passes, stretches_of
from supermoves.checks import check_from
from supermoves.errors import Stuck
from supermoves.positions import check_kind, check_room


def check_passes(kind, room, many):
    """Refuse wrong arguments, then a run that can not go."""
    check_run(kind, room, many)
    if not passes(kind, room, many):
        raise Stuck(many)


def needed_tops(kind, room, many):
    """The list, in order, of the helping tops without which, each by itself, the cards can not go."""
    check_passes(kind, room, many)
    most = bound_of(kind, room)
    marks = marks_of(room[2], many)
    return [marks[at] for at in range(1, len(marks) - 1) if marks[at + 1] - marks[at - 1] > most]


def reached_from(marks, at, most):
    """The list of the numbers of the marks behind one that are within the bound of it."""
    return [to for to in range(at + 1, len(marks)) if marks[to] - marks[at] <= most]


def legs_left(marks, most):
    """For each mark, the fewest stretches from it to the last one; each reaches the next one."""
    legs = [0] * len(marks)
    for at in reversed(range(len(marks) - 1)):
        legs[at] = 1 + min([legs[to] for to in reached_from(marks, at, most)])
    return legs


def fewest_tops(kind, room, many):
    """The first, in order, of the shortest lists of tops of the room with which alone the cards can go."""
    check_passes(kind, room, many)
    most = bound_of(kind, room)
    marks = marks_of(room[2], many)
    legs = legs_left(marks, most)
    chosen = []
    at = 0
    while legs[at] > 1:
        at = min([to for to in reached_from(marks, at, most) if legs[to] == legs[at] - 1])
        chosen.append(marks[at])
    return chosen


def how_many_lots(kind, room, many):
    """With how many of all lots of tops of the room the cards can go."""
    check_run(kind, room, many)
    most = bound_of(kind, room)
    marks = marks_of(room[2], many)
    # Counted for each mark that is in a lot: the lots of those behind it with which the rest can go.
    lots = [0] * len(marks)
    lots[-1] = 1
    for at in reversed(range(len(marks) - 1)):
        lots[at] = sum([lots[to] for to in reached_from(marks, at, most)])
    idle = [top for top in room[2] if top >= many]
    return lots[0] << len(idle)


def tops_between(low, high, most):
    """The first tops, in order, of the fewest that part a stretch as the bound wants it."""
    wanted = (high - low - 1) // most
    return [high - most * left for left in reversed(range(1, wanted + 1))]


def tops_to_add(kind, room, many):
    """The first, in order, of the shortest lists of further helping tops with which the cards can go."""
    check_run(kind, room, many)
    most = bound_of(kind, room)
    if most == 0:
        raise Stuck(many)
    return [top for low, high in stretches_of(room[2], many) for top in tops_between(low, high, most)]


def greatest_with(kind, room, further):
    """The greatest number of cards that can go with so many further tops."""
    check_kind(kind)
    check_room(room)
    check_from(further, 0)
    return greatest_reached(kind, room, further)
