"""Positions, and what is told of them: places, moves, supermoves, kinds, rooms."""

from supermoves.cards import cards_of, check_card, check_rules, fits_deck, goes_on
from supermoves.checks import check_from, is_from, is_tuple_of, is_within
from supermoves.errors import InvalidCard, InvalidKind, InvalidPlace, InvalidPosition, InvalidRoom

KINDS = ("over", "into", "whole")


def are_cards(rules, value):
    """Whether a value is a list of cards."""
    return isinstance(value, list) and all([fits_deck(rules, card) for card in value])


def are_columns(rules, value):
    """Whether a value is a list of columns, at least one."""
    return isinstance(value, list) and len(value) > 0 and all([are_cards(rules, column) for column in value])


def are_cells(rules, value):
    """Whether a value is a list of cells."""
    return isinstance(value, list) and all([card is None or fits_deck(rules, card) for card in value])


def are_homes(rules, value):
    """Whether a value is a list of homes, one for each suit."""
    ranks, suits, _ = rules
    return isinstance(value, list) and len(value) == suits and all([is_within(home, 0, ranks) for home in value])


def cards_about(position):
    """The list of all cards that are not at home, each as often as it stands there."""
    columns, cells, _ = position
    return [card for column in columns for card in column] + [card for card in cells if card is not None]


def fits_rules(rules, value):
    """Whether a value is a position of what are known to be rules."""
    if not is_tuple_of(value, 3):
        return False
    columns, cells, homes = value
    if not (are_columns(rules, columns) and are_cells(rules, cells) and are_homes(rules, homes)):
        return False
    return sorted(cards_about(value)) == [card for card in cards_of(rules) if card[0] > homes[card[1]]]


def is_position(rules, value):
    """Whether a value is a position of rules."""
    check_rules(rules)
    return fits_rules(rules, value)


def check_position(rules, position):
    """Refuse what are no rules, then what is no position of them."""
    check_rules(rules)
    if not fits_rules(rules, position):
        raise InvalidPosition(position)


def how_many_places(position, sort):
    """How many places of a sort a position has, 0 for what is no sort of place."""
    columns, cells, homes = position
    if sort == "column":
        return len(columns)
    if sort == "cell":
        return len(cells)
    return len(homes) if sort == "home" else 0


def fits_place(position, value):
    """Whether a value is a place of what is known to be a position."""
    if not is_tuple_of(value, 2):
        return False
    sort, number = value
    return is_within(number, 0, how_many_places(position, sort) - 1)


def is_place(rules, position, value):
    """Whether a value is a place of a position."""
    check_position(rules, position)
    return fits_place(position, value)


def fits_move(position, value):
    """Whether a value is a move, possible or not, of what is known to be a position."""
    if not is_tuple_of(value, 2):
        return False
    start, goal = value
    if not (fits_place(position, start) and fits_place(position, goal)):
        return False
    return start != goal and start[0] != "home"


def is_move(rules, position, value):
    """Whether a value is a move, possible or not, of a position."""
    check_position(rules, position)
    return fits_move(position, value)


def run_of(rules, column):
    """The length of the run of a column, 0 if it is empty."""
    if not column:
        return 0
    length = 1
    while length < len(column) and goes_on(rules, column[-length], column[-length - 1]):
        length += 1
    return length


def runs(rules, position):
    """The list of the lengths of the runs of all columns."""
    check_position(rules, position)
    return [run_of(rules, column) for column in position[0]]


def fits_supermove(rules, position, value):
    """Whether a value is a supermove, sensible or not, of what is known to be a position."""
    if not is_tuple_of(value, 3):
        return False
    start, goal, many = value
    columns = position[0]
    last = len(columns) - 1
    if not (is_within(start, 0, last) and is_within(goal, 0, last)):
        return False
    return start != goal and is_within(many, 1, run_of(rules, columns[start]))


def is_supermove(rules, position, value):
    """Whether a value is a supermove, sensible or not, of a position."""
    check_position(rules, position)
    return fits_supermove(rules, position, value)


def is_kind(value):
    """Whether a value is a kind of moving a run."""
    return value in KINDS


def check_kind(kind):
    """Refuse what is no kind."""
    if not is_kind(kind):
        raise InvalidKind(kind)


def are_tops(value):
    """Whether a value is a list of helping tops."""
    if not isinstance(value, list) or not all([is_from(top, 1) for top in value]):
        return False
    return all([low < high for low, high in zip(value, value[1:])])


def check_tops(tops):
    """Refuse what are no helping tops."""
    if not are_tops(tops):
        raise InvalidRoom(tops)


def is_room(value):
    """Whether a value is a room."""
    if not is_tuple_of(value, 3):
        return False
    cells, empty, tops = value
    return is_from(cells, 0) and is_from(empty, 0) and are_tops(tops)


def check_room(room):
    """Refuse what is no room."""
    if not is_room(room):
        raise InvalidRoom(room)


def dealt(rules, cards, columns, cells):
    """The position with so many columns and cells to which the cards were dealt round and round."""
    check_rules(rules)
    if not are_cards(rules, cards) or sorted(cards) != cards_of(rules):
        raise InvalidCard(cards)
    check_from(columns, 1)
    check_from(cells, 0)
    return ([cards[number::columns] for number in range(columns)], [None] * cells, [0] * rules[1])


def spot_of(position, card):
    """The place where a card stands in a position, both known to be what they are."""
    columns, cells, _ = position
    for number, column in enumerate(columns):
        if card in column:
            return ("column", number)
    if card in cells:
        return ("cell", cells.index(card))
    return ("home", card[1])


def place_of(rules, position, card):
    """The place where a card stands."""
    check_position(rules, position)
    check_card(rules, card)
    return spot_of(position, card)


def card_from(position, place):
    """The card that could be taken from a place, both known to be what they are."""
    columns, cells, homes = position
    sort, number = place
    if sort == "column":
        return columns[number][-1] if columns[number] else None
    if sort == "cell":
        return cells[number]
    return (homes[number], number) if homes[number] > 0 else None


def card_at(rules, position, place):
    """The card that could be taken from a place, None if there is none."""
    check_position(rules, position)
    if not fits_place(position, place):
        raise InvalidPlace(place)
    return card_from(position, place)


def is_won(rules, position):
    """Whether a position is won."""
    check_position(rules, position)
    return all([home == rules[0] for home in position[2]])
