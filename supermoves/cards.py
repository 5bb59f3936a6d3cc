"""Rules, and the cards of their deck."""

from supermoves.checks import is_tuple_of, is_within
from supermoves.errors import InvalidCard, InvalidRules

BUILDS = ("other", "same", "any")
MOST_RANKS = 20
MOST_SUITS = 8


def is_rules(value):
    """Whether a value are rules."""
    if not is_tuple_of(value, 3):
        return False
    ranks, suits, build = value
    return is_within(ranks, 1, MOST_RANKS) and is_within(suits, 1, MOST_SUITS) and build in BUILDS


def check_rules(rules):
    """Refuse what are no rules."""
    if not is_rules(rules):
        raise InvalidRules(rules)


def fits_deck(rules, value):
    """Whether a value is a card of what are known to be rules."""
    if not is_tuple_of(value, 2):
        return False
    rank, suit = value
    return is_within(rank, 1, rules[0]) and is_within(suit, 0, rules[1] - 1)


def is_card(rules, value):
    """Whether a value is a card."""
    check_rules(rules)
    return fits_deck(rules, value)


def check_card(rules, card):
    """Refuse what is no card of what are known to be rules."""
    if not fits_deck(rules, card):
        raise InvalidCard(card)


def cards_of(rules):
    """The list of all cards of what are known to be rules, in order."""
    ranks, suits, _ = rules
    return [(rank, suit) for rank in range(1, ranks + 1) for suit in range(suits)]


def deck(rules):
    """The list of all cards, in order."""
    check_rules(rules)
    return cards_of(rules)


def goes_on(rules, card, other):
    """Whether a card lies on another one, both known to be cards of the rules."""
    build = rules[2]
    if card[0] + 1 != other[0]:
        return False
    if build == "same":
        return card[1] == other[1]
    return build == "any" or (card[1] - other[1]) % 2 == 1


def lies_on(rules, card, other):
    """Whether a card lies on another one."""
    check_rules(rules)
    check_card(rules, card)
    check_card(rules, other)
    return goes_on(rules, card, other)


def takers(rules, card):
    """The list, in order, of the cards on which a card lies."""
    check_rules(rules)
    check_card(rules, card)
    return [other for other in cards_of(rules) if goes_on(rules, card, other)]
