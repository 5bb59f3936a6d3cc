"""A live table: a position in which deeds are done, undone and done again."""

from supermoves.checks import is_tuple_of
from supermoves.errors import InvalidDeed, NothingToRedo, NothingToUndo
from supermoves.games import game_told
from supermoves.going import fewest_game
from supermoves.moves import can_move, copy_of, position_after
from supermoves.positions import check_position, is_won
from supermoves.rooms import all_supermoves, can_be_done
from supermoves.sent import home_game
from supermoves.texts import text_of_position
from supermoves.tops import Costs


def game_of_deed(rules, position, value):
    """The game by which a value is done in a known position, None if it is no deed that can be done."""
    if value == ("home",):
        return home_game(rules, position)
    if not is_tuple_of(value, 2):
        return None
    word, told = value
    if word == "move" and can_move(rules, position, told):
        return [told]
    if word == "supermove" and can_be_done(rules, position, told):
        return fewest_game(Costs(), rules, position, told)
    return game_told(rules, position, told) if word == "read" else None


class LiveTable:
    """A position, the games that were played in it by deeds, and what was undone of them."""

    def __init__(self, rules, position):
        check_position(rules, position)
        self.all_rules = rules
        # The positions at first and behind each deed that is done, the present one last.
        self.tables = [copy_of(position)]
        self.deeds = []
        self.games = []
        # What was taken back, the last one last: tuples of a deed, its game and the position behind it.
        self.undone = []

    def __eq__(self, other):
        if not isinstance(other, LiveTable):
            return False
        if self.all_rules != other.all_rules or self.deeds != other.deeds:
            return False
        return self.tables[-1] == other.tables[-1]

    def rules(self):
        """The rules."""
        return self.all_rules

    def position(self):
        """The present position."""
        return copy_of(self.tables[-1])

    def told(self):
        """The text of the present position."""
        return text_of_position(self.all_rules, self.tables[-1])

    def take_on(self, deed, game, behind):
        """Take on what a deed has done."""
        self.deeds.append(deed)
        self.games.append(game)
        self.tables.append(behind)

    def do(self, deed):
        """Do a deed, and forget what was undone."""
        game = game_of_deed(self.all_rules, self.tables[-1], deed)
        if game is None:
            raise InvalidDeed(deed)
        self.take_on(deed, game, position_after(self.all_rules, self.tables[-1], game))
        self.undone = []

    def undo(self):
        """Take the last deed back that is not taken back yet."""
        if not self.deeds:
            raise NothingToUndo()
        self.undone.append((self.deeds.pop(), self.games.pop(), self.tables.pop()))

    def redo(self):
        """Do again what was taken back last."""
        if not self.undone:
            raise NothingToRedo()
        deed, game, behind = self.undone.pop()
        self.take_on(deed, game, behind)

    def log(self):
        """The list of the deeds that are done and not taken back, the first one first."""
        return list(self.deeds)

    def copy(self):
        """A live table that is equal, and goes its own way from then on."""
        other = LiveTable(self.all_rules, self.tables[0])
        # Positions and games that are kept are never changed: so both may keep the same ones.
        other.tables = list(self.tables)
        other.deeds = list(self.deeds)
        other.games = list(self.games)
        other.undone = list(self.undone)
        return other

    def game(self):
        """The game that was played by all deeds of the log."""
        return [move for part in self.games for move in part]

    def singles(self):
        """How many moves this game has."""
        return len(self.game())

    def hints(self):
        """The list, in order, of tuples of the fewest moves and of each sensible supermove that can be done."""
        return sorted([(moves, supermove) for supermove, moves in all_supermoves(self.all_rules, self.tables[-1])])

    def done(self):
        """Whether the present position is won."""
        return is_won(self.all_rules, self.tables[-1])


def is_deed(live, value):
    """Whether a value is a deed that can be done now."""
    if not isinstance(live, LiveTable):
        raise InvalidDeed(live)
    return game_of_deed(live.rules(), live.position(), value) is not None
