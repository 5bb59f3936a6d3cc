"""What right plans are made of: what stands about in them, how they go back, and what of them are detours."""

from supermoves.capacity import check_run
from supermoves.errors import InvalidPlan
from supermoves.plans import beginning, ending, gone_back, right_standings, standing_with, steps_in

# What kind of moving a plan is of, gone back, and by how many empty columns more.
TURNED = {"over": ("over", 0), "whole": ("into", 1), "into": ("whole", -1)}


def checked_standings(kind, room, many, plan):
    """The list of all standings of a right plan; what is none is refused."""
    check_run(kind, room, many)
    told = right_standings(kind, room, many, plan)
    if told is None:
        raise InvalidPlan(plan)
    return told


def parked(kind, room, many, plan):
    """The list, ascending, of the stretches that stand about when the last card goes for the last time."""
    told = checked_standings(kind, room, many, plan)
    last = max([number for number, (card, _) in enumerate(plan) if card == many])
    stretches = []
    low = 1
    for high in range(1, many):
        place = told[last][high - 1]
        if place != "next":
            stretches.append((low, high, place))
            low = high + 1
    return stretches


def turned_about(kind, room, many, plan):
    """The tuple of a kind, a room and the right plan for them that is a right plan gone back."""
    checked_standings(kind, room, many, plan)
    cells, empty, tops = room
    other, more = TURNED[kind]
    # What was the base is the goal of the way back.
    return (other, (cells, empty + more, list(tops)), gone_back(plan, {many: "goal"}))


def shortened(kind, room, many, plan):
    """The right plan that is left if the steps from each standing to its coming again are struck."""
    told = checked_standings(kind, room, many, plan)
    kept = [told[0]]
    steps = []
    for step, standing in zip(plan, told[1:]):
        steps.append(step)
        kept.append(standing)
        first = kept.index(standing)
        steps = steps[:first]
        kept = kept[:first + 1]
    return steps


def next_layer(kind, room, seen, layer):
    """How many shortest ways lead to each standing that is one step behind a layer, and not seen so far."""
    ways = {}
    for standing in layer:
        for step in steps_in(kind, room, list(standing)):
            behind = tuple(standing_with(list(standing), step))
            if behind not in seen:
                ways[behind] = ways.get(behind, 0) + layer[standing]
    return ways


def how_many_shortest(kind, room, many):
    """How many right plans have as few steps as can be."""
    check_run(kind, room, many)
    end = tuple(ending(many))
    layer = {tuple(beginning(many)): 1}
    seen = {}
    while layer and end not in layer:
        for standing in layer:
            seen[standing] = True
        layer = next_layer(kind, room, seen, layer)
    return layer.get(end, 0)
