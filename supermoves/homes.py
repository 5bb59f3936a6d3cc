"""Cards that may go home: no card will ever be laid on them that could not go home itself."""

from supermoves.cards import check_card, fits_deck, goes_on
from supermoves.positions import check_position


def is_at_home(position, card):
    """Whether a card is at home in a known position."""
    return card[0] <= position[2][card[1]]


def lacks_lower(position, card):
    """Whether a lower card of the suit of a card is not at home in a known position."""
    return position[2][card[1]] < card[0] - 1


def cards_on(rules, card):
    """The list, in order, of the cards that lie on a card."""
    lower = [(card[0] - 1, suit) for suit in range(rules[1]) if card[0] > 1]
    return [other for other in lower if goes_on(rules, other, card)]


def reason_of(rules, position, card):
    """What why_not tells of a card of a known position."""
    if is_at_home(position, card):
        return None
    if lacks_lower(position, card):
        return [card]
    # This goes on only from cards that are the next ones at home, so there are few ways, and short ones.
    told = [reason_of(rules, position, other) for other in cards_on(rules, card)]
    reasons = [[card] + reason for reason in told if reason is not None]
    return min(reasons, key=lambda reason: (len(reason), reason), default=None)


def needs_no_place(rules, position, card):
    """Whether a card is at home, or no card that would need it as a place is ever to be laid on it."""
    check_position(rules, position)
    check_card(rules, card)
    return reason_of(rules, position, card) is None


def cards_at_hand(position):
    """The list, in order, of the cards of a known position that could be taken from columns and cells."""
    columns, cells, _ = position
    return sorted([column[-1] for column in columns if column] + [card for card in cells if card is not None])


def harmless_in(rules, position):
    """The list, in order, of the harmless cards of a known position."""
    return [card for card in cards_at_hand(position) if reason_of(rules, position, card) is None]


def harmless(rules, position):
    """The list, in order, of the cards that can go home and will not be missed."""
    check_position(rules, position)
    return harmless_in(rules, position)


def why_not(rules, position, card):
    """The first of the shortest lists of cards that tell why a card needs a place, None if it needs none."""
    check_position(rules, position)
    check_card(rules, card)
    return reason_of(rules, position, card)


def is_why_not(rules, position, card, value):
    """Whether a value is a list of cards, shortest or not, that tells why a card needs a place."""
    check_position(rules, position)
    check_card(rules, card)
    if not isinstance(value, list) or not value or not all([fits_deck(rules, other) for other in value]):
        return False
    if value[0] != card or any([is_at_home(position, other) for other in value]):
        return False
    return lacks_lower(position, value[-1]) and all([goes_on(rules, on, beneath)
                                                     for beneath, on in zip(value, value[1:])])
