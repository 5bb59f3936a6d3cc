"""The texts of cards, positions and moves."""

from supermoves.cards import check_card, check_rules, fits_deck
from supermoves.errors import InvalidMove, InvalidText
from supermoves.positions import card_from, check_position, fits_move, fits_place, fits_rules

RANK_SIGNS = "A23456789TJQKLMNOPRU"
SUIT_SIGNS = "CDSHWXYZ"
COLUMN_SIGNS = "1234567890"
CELL_SIGNS = "abcdefg"
HOME_SIGN = "h"
NO_SIGN = "?"


def sign_of_card(card):
    """The text of what is known to be a card."""
    return RANK_SIGNS[card[0] - 1] + SUIT_SIGNS[card[1]]


def text_of_card(rules, card):
    """The text of a card."""
    check_rules(rules)
    check_card(rules, card)
    return sign_of_card(card)


def card_told(rules, text):
    """The card of known rules that has a text, None if there is none."""
    if not isinstance(text, str) or len(text) != 2:
        return None
    # What is not found is at -1: this makes a rank, or a suit, that no rules have.
    card = (RANK_SIGNS.find(text[0]) + 1, SUIT_SIGNS.find(text[1]))
    return card if fits_deck(rules, card) else None


def card_of_text(rules, text):
    """The card that has a text."""
    check_rules(rules)
    card = card_told(rules, text)
    if card is None:
        raise InvalidText(text)
    return card


def line_of(words):
    """A line of words with a blank between neighbouring ones."""
    return " ".join(words) + "\n"


def text_of_position(rules, position):
    """The text of a position."""
    check_position(rules, position)
    columns, cells, homes = position
    lines = []
    for number, column in enumerate(columns):
        lines.append(line_of([f"{number + 1}:"] + [sign_of_card(card) for card in column]))
    lines.append(line_of(["cells:"] + ["-" if card is None else sign_of_card(card) for card in cells]))
    lines.append(line_of(["homes:"] + [str(home) for home in homes]))
    return "".join(lines)


def column_told(rules, number, line):
    """What the line of a column tells, with None for what is no card; None if it is no such line."""
    words = line.split(" ")
    return [card_told(rules, word) for word in words[1:]] if words[0] == f"{number + 1}:" else None


def cells_told(rules, line):
    """What the line of the cells tells, None if it is no such line."""
    words = line.split(" ")
    cells = [card_told(rules, word) for word in words[1:]]
    for word, card in zip(words[1:], cells):
        if card is None and word != "-":
            return None
    return cells if words[0] == "cells:" else None


def homes_told(rules, line):
    """What the line of the homes tells, with None for what is no count; None if it is no such line."""
    # Looked up and not reckoned, so that no number of figures is too great.
    counts = {str(home): home for home in range(rules[0] + 1)}
    words = line.split(" ")
    return [counts.get(word) for word in words[1:]] if words[0] == "homes:" else None


def position_told(rules, text):
    """The position of known rules that has a text, None if there is none."""
    if not isinstance(text, str):
        return None
    lines = text.split("\n")
    if len(lines) < 4 or lines[-1] != "":
        return None
    columns = [column_told(rules, number, line) for number, line in enumerate(lines[:-3])]
    # Where a line tells nothing, None stands in the place of a list or a card: then this is no position.
    position = (columns, cells_told(rules, lines[-3]), homes_told(rules, lines[-2]))
    return position if fits_rules(rules, position) else None


def position_of_text(rules, text):
    """The position of rules that has a text."""
    check_rules(rules)
    position = position_told(rules, text)
    if position is None:
        raise InvalidText(text)
    return position


def sign_of_place(place):
    """The sign of what is known to be a place."""
    sort, number = place
    if sort == "home":
        return HOME_SIGN
    signs = COLUMN_SIGNS if sort == "column" else CELL_SIGNS
    # Columns and cells beyond the limits have no sign of their own.
    return signs[number] if number < len(signs) else NO_SIGN


def text_of_move(rules, position, move):
    """The text of a move, possible or not."""
    check_position(rules, position)
    if not fits_move(position, move):
        raise InvalidMove(move)
    return sign_of_place(move[0]) + sign_of_place(move[1])


def place_told(sign, card):
    """The place that has a sign, for a home that of a card, None if there is none."""
    if sign in COLUMN_SIGNS:
        return ("column", COLUMN_SIGNS.find(sign))
    if sign in CELL_SIGNS:
        return ("cell", CELL_SIGNS.find(sign))
    return ("home", card[1]) if sign == HOME_SIGN and card is not None else None


def move_told(position, text):
    """The move of a known position that has a text, None if there is none."""
    if not isinstance(text, str) or len(text) != 2:
        return None
    start = place_told(text[0], None)
    if not fits_place(position, start):
        return None
    move = (start, place_told(text[1], card_from(position, start)))
    return move if fits_move(position, move) else None


def move_of_text(rules, position, text):
    """The move of a position that has a text."""
    check_position(rules, position)
    move = move_told(position, text)
    if move is None:
        raise InvalidText(text)
    return move
