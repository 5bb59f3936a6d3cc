"""Cards that are sent home, and what it costs to send one."""

from supermoves.cards import check_card, fits_deck
from supermoves.errors import InvalidCard
from supermoves.homes import cards_at_hand, harmless_in
from supermoves.moves import copy_of, make_move, position_behind
from supermoves.positions import check_position, spot_of
from supermoves.search import moves_to_win, sorts_from


def home_move(position, card):
    """The move that sends a card home which can go there."""
    return (spot_of(position, card), ("home", card[1]))


def all_sent(rules, position):
    """The list of the cards that go if the first harmless one goes each time, and the position that comes."""
    table = copy_of(position)
    sent = []
    cards = harmless_in(rules, table)
    while cards:
        sent.append(cards[0])
        make_move(table, home_move(table, cards[0]))
        cards = harmless_in(rules, table)
    return (sent, table)


def home_game(rules, position):
    """The game that sends harmless cards of a known position home until there are none."""
    table = copy_of(position)
    game = []
    for card in all_sent(rules, position)[0]:
        game.append(home_move(table, card))
        make_move(table, game[-1])
    return game


def sent_home(rules, position):
    """The position that comes if harmless cards are sent home until there are none."""
    check_position(rules, position)
    return all_sent(rules, position)[1]


def sendings(rules, position):
    """The list of the cards that go home if the first harmless one, in order, goes each time."""
    check_position(rules, position)
    return all_sent(rules, position)[0]


def is_sendings(rules, position, value):
    """Whether a value is a list of cards that can go home one behind the other, all harmless then, and no more."""
    check_position(rules, position)
    if not isinstance(value, list):
        return False
    table = copy_of(position)
    for card in value:
        if not fits_deck(rules, card) or card not in harmless_in(rules, table):
            return False
        make_move(table, home_move(table, card))
    return not harmless_in(rules, table)


def one_more_sent(rules, layer):
    """The list of tuples of each position with one harmless card fewer, and of how many orders lead to it."""
    tables = {}
    orders = {}
    for table, many in layer:
        for card in harmless_in(rules, table):
            behind = position_behind(table, home_move(table, card))
            # What went home tells all that else has changed.
            homes = tuple(behind[2])
            tables[homes] = behind
            orders[homes] = orders.get(homes, 0) + many
    return [(tables[homes], orders[homes]) for homes in tables]


def how_many_orders(rules, position):
    """In how many orders harmless cards can go home until there are none."""
    check_position(rules, position)
    # In each order just the same cards go: so all come to the end with the same card.
    layer = [(position, 1)]
    behind = one_more_sent(rules, layer)
    while behind:
        layer = behind
        behind = one_more_sent(rules, layer)
    return layer[0][1]


def check_next_home(rules, position, card):
    """Refuse what is no card, or none that can go home from where it stands in a known position."""
    check_card(rules, card)
    if card not in cards_at_hand(position) or position[2][card[1]] + 1 != card[0]:
        raise InvalidCard(card)


def harm_of(rules, position, card):
    """By how many moves the shortest game that wins grows if a card is sent home, None if it is lost by this."""
    check_position(rules, position)
    check_next_home(rules, position, card)
    sorts = sorts_from(rules, position)
    least = moves_to_win(sorts)
    if least[0] is None:
        return 0
    left = least[sorts.number_of(position_behind(position, home_move(position, card)))]
    return None if left is None else left + 1 - least[0]


def harm_table():
    """A tuple of rules, a position that can be won, and a card that can go home and loses it by this."""
    # The four of suit 1 lies on the three that has to go home first, and only the five of suit 0 takes it.
    return ((5, 3, "other"), ([[(3, 1), (4, 1)], [(5, 1), (5, 0)]], [], [4, 2, 5]), (5, 0))
