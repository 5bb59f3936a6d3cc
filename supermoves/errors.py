"""The errors of the package: the class tells what is wrong, the field value where."""


class MoveError(ValueError):
    """What all errors of the package are."""


class InvalidNumber(MoveError):
    """A number is not one that is taken there."""

    def __init__(self, value=None):
        self.value = value


class InvalidRules(MoveError):
    """Something is no rules."""

    def __init__(self, value=None):
        self.value = value


class InvalidCard(MoveError):
    """Something is no card of the rules, or no deck of them."""

    def __init__(self, value=None):
        self.value = value


class InvalidPosition(MoveError):
    """Something is no position of the rules."""

    def __init__(self, value=None):
        self.value = value


class InvalidPlace(MoveError):
    """Something is no place of the position."""

    def __init__(self, value=None):
        self.value = value


class InvalidMove(MoveError):
    """Something is no move of the position, or not a possible one."""

    def __init__(self, value=None):
        self.value = value


class InvalidGame(MoveError):
    """Something is no game, or not one that can go."""

    def __init__(self, value=None):
        self.value = value


class InvalidKind(MoveError):
    """Something is no kind of moving a run."""

    def __init__(self, value=None):
        self.value = value


class InvalidRoom(MoveError):
    """Something is no room, or no helping tops of one."""

    def __init__(self, value=None):
        self.value = value


class InvalidPlan(MoveError):
    """Something is no plan, or no part of one."""

    def __init__(self, value=None):
        self.value = value


class InvalidSupermove(MoveError):
    """Something is no supermove of the position, or not a sensible one."""

    def __init__(self, value=None):
        self.value = value


class InvalidText(MoveError):
    """Something is not the text of anything."""

    def __init__(self, value=None):
        self.value = value


class InvalidDeed(MoveError):
    """Something is no deed, or no live table."""

    def __init__(self, value=None):
        self.value = value


class TooMany(MoveError):
    """There is more than is gone through."""

    def __init__(self, value=None):
        self.value = value


class Stuck(MoveError):
    """What is asked about can not be done at all."""

    def __init__(self, value=None):
        self.value = value


class NothingToUndo(MoveError):
    """No deed is left that could be taken back."""


class NothingToRedo(MoveError):
    """No deed is left that could be done again."""
