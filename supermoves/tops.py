"""The fewest steps in which a run goes over beside helping tops."""

from supermoves.capacity import check_run

# By how many empty columns more, or fewer, there are on the way back of a piece than on its way there.
MORE_ON_THE_WAY_BACK = {"over": 0, "into": -1, "whole": 1}
# As what kind of run a piece goes to its place, a card in a cell apart.
KIND_OF_WAY = {"column": "into", "top": "over"}


def signs_of(tops, many):
    """A sign for each card of a run but its last one: + if it has a helping top, - if it has none."""
    return "".join(["+" if card in tops else "-" for card in range(1, many)])


def columns_to_take(kind, empty):
    """How many empty columns pieces can take."""
    return empty - 1 if kind == "into" else empty


def first_pieces(kind, cells, empty, signs):
    """The list, in order, of what the first piece can be: tuples of its place and of its last card."""
    numbers = range(1, len(signs) + 1)
    pieces = [("cell", 1)] if cells > 0 and signs else []
    if columns_to_take(kind, empty) > 0:
        pieces.extend([("column", high) for high in numbers])
    return pieces + [("top", high) for high in numbers if signs[high - 1] == "+"]


def left_behind(cells, empty, place):
    """The tuple of the free cells and the empty columns that are left behind a piece."""
    if place == "cell":
        return (cells - 1, empty)
    return (cells, empty - 1) if place == "column" else (cells, empty)


class Costs:
    """The fewest steps of runs, each worked out once: so those of many like rooms are told in little time.

    A run is told by its signs, which it has one fewer of than it has cards.
    """

    def __init__(self):
        self.known = {}

    def steps_of(self, kind, cells, empty, signs):
        """The fewest steps of a run, None if it can not go."""
        key = (kind, cells, empty, signs)
        if key not in self.known:
            self.known[key] = self.worked_out(kind, cells, empty, signs)
        return self.known[key]

    def worked_out(self, kind, cells, empty, signs):
        """The fewest steps of a run, by the recursion."""
        if kind == "into" and empty == 0:
            return None
        # Where each card can be parked by itself, each one but the last goes just twice: nothing is less.
        if signs.count("-") <= cells + columns_to_take(kind, empty):
            return 2 * len(signs) + 1
        ways = [self.steps_begun(kind, cells, empty, signs, piece) for piece in first_pieces(kind, cells, empty, signs)]
        return min([steps for steps in ways if steps is not None], default=None)

    def steps_begun(self, kind, cells, empty, signs, piece):
        """The fewest steps of a run of which just this piece is parked first, None if it can not go so."""
        place, high = piece
        parking = self.steps_parked(kind, cells, empty, signs[:high - 1], place)
        if parking is None:
            return None
        cells, empty = left_behind(cells, empty, place)
        # What is left is a run of its own, with one step for its last card.
        rest = self.steps_of(kind, cells, empty, signs[high:])
        return None if rest is None else parking + rest

    def steps_parked(self, kind, cells, empty, signs, place):
        """The steps of a piece, there and back, None if it can not go."""
        if place == "cell":
            return 2
        way = KIND_OF_WAY[place]
        there = self.steps_of(way, cells, empty, signs)
        back = self.steps_of(way, cells, empty + MORE_ON_THE_WAY_BACK[kind], signs)
        return None if there is None or back is None else there + back


def steps_beside(costs, kind, room, many):
    """The fewest steps of so many cards in a room, None if they can not go."""
    cells, empty, tops = room
    return costs.steps_of(kind, cells, empty, signs_of(tops, many))


def fewest_with(kind, room, many):
    """The least number of steps in which so many cards go over, None if they can not."""
    check_run(kind, room, many)
    return steps_beside(Costs(), kind, room, many)
