"""Standings of a run that goes over, the steps from one to the next, and plans of such steps."""

from supermoves.capacity import check_run
from supermoves.checks import check_from, is_tuple_of, is_within
from supermoves.errors import InvalidPlan
from supermoves.helped import least_parting
from supermoves.positions import check_kind, check_room
from supermoves.tops import KIND_OF_WAY, MORE_ON_THE_WAY_BACK, Costs, left_behind, signs_of, steps_beside

# In order; a step never goes to the base.
PLACES = ("cell", "column", "goal", "next", "top")
PLACES_OF_LAST = ("base", "cell", "column", "goal")
PLACES_OF_OTHERS = ("cell", "column", "next", "top")


def beginning(many):
    """The standing at the beginning."""
    return ["next"] * (many - 1) + ["base"]


def ending(many):
    """The standing at the end of a right plan."""
    return ["next"] * (many - 1) + ["goal"]


def start_of(many):
    """The standing at the beginning."""
    check_from(many, 1)
    return beginning(many)


def are_places(value):
    """Whether what is known to be a list, not empty, tells of each card of a run a place that it can have."""
    return value[-1] in PLACES_OF_LAST and all([place in PLACES_OF_OTHERS for place in value[:-1]])


def lies_well(tops, standing, card):
    """Whether a card of known places, not the last one, can lie at its own, what is taken of the room apart."""
    place = standing[card - 1]
    if place == "next":
        return standing[card] != "cell"
    return place != "top" or card in tops


def has_room(kind, room, standing):
    """Whether there are as many cells and columns as known places take."""
    cells, empty, _ = room
    columns = standing.count("column")
    if kind == "into" and standing[-1] == "goal":
        columns += 1
    if kind == "whole" and standing[-1] != "base":
        empty += 1
    return standing.count("cell") <= cells and columns <= empty


def fits_standing(kind, room, many, value):
    """Whether a value is a standing, the other arguments known to be right."""
    if not isinstance(value, list) or len(value) != many or not are_places(value):
        return False
    return has_room(kind, room, value) and all([lies_well(room[2], value, card) for card in range(1, many)])


def is_standing(kind, room, many, value):
    """Whether a value is a standing."""
    check_run(kind, room, many)
    return fits_standing(kind, room, many, value)


def standing_with(standing, step):
    """The standing that comes if the card of a step lies at the place of it."""
    card, place = step
    return standing[:card - 1] + [place] + standing[card:]


def is_free(standing, card):
    """Whether no card lies on a card, which is not at its goal either."""
    return standing[card - 1] != "goal" and (card == 1 or standing[card - 2] != "next")


def can_step(kind, room, standing, step):
    """Whether a step of one of the cards to one of the places is possible in a known standing."""
    card, place = step
    if not is_free(standing, card) or standing[card - 1] == place:
        return False
    return fits_standing(kind, room, len(standing), standing_with(standing, step))


def steps_in(kind, room, standing):
    """The list of the possible steps in a known standing, in order."""
    tried = [(card, place) for card in range(1, len(standing) + 1) for place in PLACES]
    return [step for step in tried if can_step(kind, room, standing, step)]


def check_standing(kind, room, standing):
    """Refuse what is no standing of as many cards as it has strings."""
    if not isinstance(standing, list) or not standing or not fits_standing(kind, room, len(standing), standing):
        raise InvalidPlan(standing)


def possible_steps(kind, room, standing):
    """The list of the possible steps, in order."""
    check_kind(kind)
    check_room(room)
    check_standing(kind, room, standing)
    return steps_in(kind, room, standing)


def is_step(many, value):
    """Whether a value is a step, possible or not, of so many cards."""
    if not is_tuple_of(value, 2):
        return False
    card, place = value
    return is_within(card, 1, many) and place in PLACES


def behind_step(kind, room, standing, step):
    """The standing behind a possible step."""
    check_kind(kind)
    check_room(room)
    check_standing(kind, room, standing)
    if not is_step(len(standing), step) or not can_step(kind, room, standing, step):
        raise InvalidPlan(step)
    return standing_with(standing, step)


def standings_of(kind, room, many, value):
    """The list of all standings of a plan, None if the value is no plan."""
    if not isinstance(value, list) or not all([is_step(many, step) for step in value]):
        return None
    told = [beginning(many)]
    for step in value:
        if not can_step(kind, room, told[-1], step):
            return None
        told.append(standing_with(told[-1], step))
    return told


def is_plan(kind, room, many, value):
    """Whether a value is a plan."""
    check_run(kind, room, many)
    return standings_of(kind, room, many, value) is not None


def right_standings(kind, room, many, value):
    """The list of all standings of a right plan, None if the value is none."""
    # Each card but the last one goes at least twice: so what is shorter need not be gone through.
    if not isinstance(value, list) or len(value) < 2 * many - 1:
        return None
    told = standings_of(kind, room, many, value)
    return told if told is not None and told[-1] == ending(many) else None


def is_right(kind, room, many, value):
    """Whether a value is a right plan."""
    check_run(kind, room, many)
    return right_standings(kind, room, many, value) is not None


def standings(kind, room, many, plan):
    """The list of all standings of a plan, the first and the last one among them."""
    check_run(kind, room, many)
    told = standings_of(kind, room, many, plan)
    if told is None:
        raise InvalidPlan(plan)
    return told


def gone_back(steps, lies):
    """The steps that undo others, the last one first, where lies tells what cards did not lie on the next one."""
    lies = dict(lies)
    back = []
    for card, place in steps:
        back.append((card, lies.get(card, "next")))
        lies[card] = place
    return back[::-1]


def steps_of_piece(costs, cells, empty, signs, low, place):
    """The steps by which a stretch, of which low is the first card, goes from the next card to its place."""
    if place == "cell":
        return [(low, place)]
    return steps_to(costs, KIND_OF_WAY[place], cells, empty, signs, low, place)


def steps_to(costs, kind, cells, empty, signs, low, place):
    """The fewest steps by which a run that can go, of which low is the first card, goes to a place."""
    there = []
    back = []
    for spot, first, last in least_parting(costs, kind, cells, empty, signs):
        part = signs[first - 1:last - 1]
        begin = low + first - 1
        there = there + steps_of_piece(costs, cells, empty, part, begin, spot)
        later = empty + MORE_ON_THE_WAY_BACK[kind]
        back = gone_back(steps_of_piece(costs, cells, later, part, begin, spot), {}) + back
        cells, empty = left_behind(cells, empty, spot)
    return there + [(low + len(signs), place)] + back


def least_plan(costs, kind, room, many):
    """Any right plan with as few steps as can be, None if there is no right plan."""
    if steps_beside(costs, kind, room, many) is None:
        return None
    cells, empty, tops = room
    return steps_to(costs, kind, cells, empty, signs_of(tops, many), 1, "goal")


def shortest_plan(kind, room, many):
    """Any right plan with as few steps as can be, None if there is no right plan."""
    check_run(kind, room, many)
    return least_plan(Costs(), kind, room, many)


def is_shortest(kind, room, many, value):
    """Whether a value is a right plan with as few steps as can be."""
    check_run(kind, room, many)
    if right_standings(kind, room, many, value) is None:
        return False
    return len(value) == steps_beside(Costs(), kind, room, many)
