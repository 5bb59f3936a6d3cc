"""[70] to [72]: a live table."""

import random
import time
import unittest

from supermoves.cards import is_rules
from supermoves.errors import InvalidDeed, InvalidPosition, InvalidRules, NothingToRedo, NothingToUndo
from supermoves.live import LiveTable, is_deed
from supermoves.moves import after, can_go, possible_moves
from supermoves.positions import is_won
from supermoves.rooms import all_supermoves, fewest_moves
from supermoves.sent import sendings, sent_home
from supermoves.texts import text_of_move, text_of_position
from tests.helpers import (BUILDS, changes, edge_positions, junk, lists_in, refuses, same, some_position,
                           some_positions, spoil)
from tests.test_cards import not_rules
from tests.test_games import plain_positions
from tests.test_moves import plain_behind, plainly_possible, some_game
from tests.test_positions import SMALL, TABLE, not_positions
from tests.test_rooms import FOUR, LAID, all_of, great_positions, plain_end, plainly_sensible

METHODS = ["rules", "position", "told", "log", "game", "singles", "hints", "done"]
FIRST = ("move", (("cell", 0), ("column", 1)))


def plain_deed(rules, position, deed):
    """The position behind a deed, None if it can't be done, of a tuple of the form of a deed."""
    if deed[0] == "home":
        return sent_home(rules, position)
    if deed[0] == "move":
        return plain_behind(position, deed[1]) if plainly_possible(rules, position, deed[1]) else None
    if deed[0] == "supermove":
        if deed[1] not in all_of(rules, position) or not plainly_sensible(rules, position, deed[1]):
            return None
        return plain_end(position, deed[1]) if fewest_moves(rules, position, deed[1]) is not None else None
    game = []
    for word in deed[1].split(" ") if deed[1] else []:
        here = after(rules, position, game)
        good = [move for move in possible_moves(rules, here) if text_of_move(rules, here, move) == word]
        if not good:
            return None
        game.append(good[0])
    return after(rules, position, game)


def some_deed(chance, rules, position):
    """Any tuple of the form of a deed, most of them such as can be done."""
    columns = range(len(position[0]))
    word = chance.choice(["move", "move", "supermove", "supermove", "home", "read"])
    if word == "home":
        return ("home",)
    if word == "read":
        game, _ = some_game(chance, rules, position, chance.randint(0, 4))
        told = plain_positions(rules, position, game)
        words = [text_of_move(rules, here, move) for here, move in zip(told, game)]
        return (word, " ".join(words + (["11"] if chance.random() < 0.2 else [])))
    if word == "supermove":
        told = [supermove for supermove, _ in all_supermoves(rules, position)]
        if told and chance.random() < 0.8:
            return (word, chance.choice(told))
        return (word, (chance.choice(columns), chance.choice(columns), chance.randint(1, 3)))
    moves = possible_moves(rules, position)
    if moves and chance.random() < 0.8:
        return (word, chance.choice(moves))
    return (word, (("column", chance.choice(columns)), ("column", chance.choice(columns))))


def fewest_of(rules, position, deed):
    """With how many single moves a deed is done."""
    if deed[0] == "move":
        return 1
    if deed[0] == "supermove":
        return fewest_moves(rules, position, deed[1])
    return len(sendings(rules, position)) if deed[0] == "home" else len(deed[1].split())


class PlainTable:
    """A live table that keeps positions and deeds in lists."""

    def __init__(self, rules, position):
        self.rules, self.tables, self.deeds, self.undone = rules, [position], [], []

    def do(self, deed):
        behind = plain_deed(self.rules, self.tables[-1], deed)
        if behind is None:
            return False
        self.tables.append(behind)
        self.deeds.append(deed)
        self.undone = []
        return True

    def undo(self):
        if not self.deeds:
            return False
        self.undone.append((self.deeds.pop(), self.tables.pop()))
        return True

    def redo(self):
        if not self.undone:
            return False
        deed, behind = self.undone.pop()
        self.deeds.append(deed)
        self.tables.append(behind)
        return True

    def copy(self):
        other = PlainTable(self.rules, self.tables[0])
        other.tables, other.deeds, other.undone = list(self.tables), list(self.deeds), list(self.undone)
        return other


def few_tables(seed, many):
    chance = random.Random(seed)
    found = [(SMALL, TABLE), (FOUR, LAID)]
    while len(found) < many:
        rules = (chance.randint(2, 5), chance.randint(1, 3), chance.choice(BUILDS))
        found.append((rules, some_position(chance, rules, chance.randint(2, 5), chance.randint(0, 2), True)))
    return found


class AgainstAPlainTable(unittest.TestCase):
    def compare(self, live, plain):
        before = [repr(getattr(live, name)()) for name in METHODS]
        rules, position = plain.rules, plain.tables[-1]
        self.assertTrue(same(live.rules(), rules))
        self.assertTrue(same(live.position(), position))
        self.assertEqual(live.told(), text_of_position(rules, position))
        self.assertTrue(same(live.log(), plain.deeds))
        game = live.game()
        self.assertEqual(after(rules, plain.tables[0], game), position)
        parts = [fewest_of(rules, here, deed) for here, deed in zip(plain.tables, plain.deeds)]
        self.assertEqual(len(game), sum(parts))
        self.assertEqual(live.singles(), len(game))
        for at, deed in enumerate(plain.deeds):
            part = game[sum(parts[:at]):sum(parts[:at + 1])]
            self.assertEqual(after(rules, plain.tables[at], part), plain.tables[at + 1])
            self.assertTrue(deed[0] != "home" or all(move[1][0] == "home" for move in part))
            self.assertTrue(deed[0] != "move" or part == [deed[1]])
        hints = live.hints()
        self.assertTrue(same(hints, sorted((moves, supermove) for supermove, moves in all_supermoves(rules, position))))
        self.assertIs(live.done(), is_won(rules, position))
        for name in METHODS:
            lists = lists_in(getattr(live, name)())
            self.assertEqual(len(lists), len({id(one) for one in lists}))
            spoil(getattr(live, name)())
        self.assertEqual([repr(getattr(live, name)()) for name in METHODS], before)

    def test_drawn_deeds(self):
        chance = random.Random(200)
        seen = {"done": 0, "refused": 0, "undone": 0, "redone": 0, "copied": 0}
        for rules, position in few_tables(201, 120):
            pairs = [(LiveTable(rules, position), PlainTable(rules, position))]
            for _ in range(25):
                live, plain = chance.choice(pairs)
                what = chance.choice(["do"] * 5 + ["undo"] * 2 + ["redo", "redo", "copy"])
                if what == "do":
                    deed = some_deed(chance, rules, plain.tables[-1])
                    goes = plain.do(deed)
                    self.assertIs(is_deed(live, deed), goes)
                    seen["done" if goes else "refused"] += 1
                    if goes:
                        self.assertIsNone(live.do(deed))
                    else:
                        with self.assertRaises(InvalidDeed) as caught:
                            live.do(deed)
                        self.assertIs(caught.exception.value, deed)
                elif what == "copy":
                    pairs.append((live.copy(), plain.copy()))
                    self.assertTrue(live == pairs[-1][0])
                    seen["copied"] += 1
                else:
                    goes = getattr(plain, what)()
                    seen[what + "ne" if what == "undo" else "redone"] += goes
                    if goes:
                        self.assertIsNone(getattr(live, what)())
                    else:
                        with self.assertRaises(NothingToUndo if what == "undo" else NothingToRedo) as caught:
                            getattr(live, what)()
                        self.assertFalse(hasattr(caught.exception, "value"))
                self.compare(live, plain)
            for one, plain in pairs:
                self.compare(one, plain)
                for other, besides in pairs:
                    wanted = plain.tables[-1] == besides.tables[-1] and plain.deeds == besides.deeds
                    self.assertIs(one == other, wanted)
        self.assertGreater(min(seen.values()), 50)

    def test_what_a_game_is_stays(self):
        for rules, position in few_tables(202, 40):
            live, chance = LiveTable(rules, position), random.Random(203)
            for _ in range(4):
                deed = some_deed(chance, rules, live.position())
                if is_deed(live, deed):
                    live.do(deed)
            game = live.game()
            for _ in live.log():
                live.undo()
            self.assertEqual([live.game(), live.singles(), live.log()], [[], 0, []])
            self.assertTrue(same(live.position(), position))
            while True:
                try:
                    live.redo()
                except NothingToRedo:
                    break
            self.assertTrue(same(live.game(), game))
            self.assertTrue(same(live.copy().game(), game))


class Deeds(unittest.TestCase):
    def test_each_deed(self):
        live = LiveTable(SMALL, TABLE)
        for deed, wanted in [(FIRST, True), (("move", (("cell", 0), ("column", 0))), False),
                             (("supermove", (0, 2, 1)), True), (("supermove", (0, 2, 2)), False), (("supermove", (1, 2, 1)), False), (("home",), True),
                             (("read", ""), True),
                             (("read", "1h a2"), True), (("read", "1h ah"), True), (("read", "2a"), False),
                             (("read", "1h  a2"), False)]:
            self.assertIs(is_deed(live, deed), wanted, deed)

    def test_what_is_no_deed(self):
        good = [FIRST, ("supermove", (0, 2, 1)), ("home",), ("read", "1h a2"), ("read", "")]
        all_deeds = [("move", move) for move in possible_moves(SMALL, TABLE)]
        all_deeds += [("supermove", supermove) for supermove, _ in all_supermoves(SMALL, TABLE)]
        live = LiveTable(SMALL, TABLE)
        found = 0
        for value in junk() + good + [other for deed in good for other in changes(deed)] + [
                ["home"], ("home", None), ("home", ()), "home", ("Home",), ("undo",), ("move",),
                ("supermove", (0, 2, True)), ("supermove", (False, 2, 1)), ("move", [("cell", 0), ("column", 1)]),
                ("read", ["1h"]), live, ("home", live), (live,), (live, live), ("read", live), ("move", (live, live))]:
            wanted = False
            if any(same(value, deed) for deed in good):
                wanted = True
            elif type(value) is tuple and len(value) == 2 and type(value[1]) is str and value[0] == "read":
                wanted = plain_deed(SMALL, TABLE, value) is not None
            else:
                wanted = any(same(value, deed) for deed in all_deeds)
            self.assertIs(is_deed(live, value), wanted, f"{value}")
            found += wanted
            if not wanted:
                with self.assertRaises(InvalidDeed) as caught:
                    live.do(value)
                self.assertIs(caught.exception.value, value)
        self.assertGreater(found, 5)
        self.assertTrue(live == LiveTable(SMALL, TABLE))
        self.assertEqual([live.log(), live.position()], [[], TABLE])

    def test_a_deed_that_does_nothing(self):
        stuck = ((2, 1, "any"), ([[(1, 0), (2, 0)]], [], [0]))
        for rules, position in [(SMALL, ([[], [], []], [None], [3, 3])), stuck]:
            live = LiveTable(rules, position)
            live.do(("home",))
            live.do(("read", ""))
            self.assertEqual([live.log(), live.game(), live.singles()], [[("home",), ("read", "")], [], 0])
            self.assertFalse(live == LiveTable(rules, position))
            live.undo()
            live.undo()
            self.assertTrue(live == LiveTable(rules, position))

    def test_all_at_home(self):
        rules = (20, 8, "other")
        live = LiveTable(rules, ([[(rank, suit) for rank in range(20, 0, -1)] for suit in range(8)], [], [0] * 8))
        live.do(("home",))
        self.assertEqual([live.done(), live.singles(), live.hints()], [True, 160, []])
        live.undo()
        self.assertIs(live.done(), False)


class UndoAndRedo(unittest.TestCase):
    def test_what_was_undone_is_forgotten(self):
        live = LiveTable(SMALL, TABLE)
        live.do(FIRST)
        live.undo()
        live.do(("home",))
        with self.assertRaises(NothingToRedo):
            live.redo()
        self.assertEqual(live.log(), [("home",)])

    def test_what_is_refused_forgets_nothing(self):
        live = LiveTable(SMALL, TABLE)
        live.do(FIRST)
        live.undo()
        for deed in [None, ("home", 1), ("move", (("column", 1), ("column", 0))), ("read", "2a")]:
            with self.assertRaises(InvalidDeed):
                live.do(deed)
        with self.assertRaises(NothingToUndo):
            live.undo()
        live.redo()
        self.assertEqual(live.log(), [FIRST])
        with self.assertRaises(NothingToRedo):
            live.redo()
        self.assertEqual([live.log(), live.singles()], [[FIRST], 1])

    def test_several_are_done_again_in_order(self):
        live = LiveTable(SMALL, TABLE)
        deeds = [FIRST, ("supermove", (1, 2, 1)), ("home",)]
        told = [live.told()]
        for deed in deeds:
            live.do(deed)
            told.append(live.told())
        for at in reversed(range(3)):
            live.undo()
            self.assertEqual(live.told(), told[at])
        for at in range(3):
            live.redo()
            self.assertEqual([live.told(), live.log()], [told[at + 1], deeds[:at + 1]])

    def test_hints_asked_again(self):
        live = LiveTable(SMALL, TABLE)
        hints = live.hints()
        live.do(FIRST)
        self.assertEqual(live.hints(), [(1, (0, 2, 1)), (1, (1, 2, 1))])
        self.assertNotEqual(live.hints(), hints)
        live.undo()
        self.assertEqual(live.hints(), hints)
        live.redo()
        self.assertEqual(live.hints(), [(1, (0, 2, 1)), (1, (1, 2, 1))])


class Copies(unittest.TestCase):
    def test_a_copy_goes_its_own_way(self):
        live = LiveTable(SMALL, TABLE)
        live.do(FIRST)
        live.do(("supermove", (1, 2, 1)))
        live.undo()
        other = live.copy()
        self.assertTrue(live == other and other == live and not live != other)
        other.redo()
        self.assertFalse(live == other)
        self.assertEqual([len(live.log()), len(other.log())], [1, 2])
        live.redo()
        self.assertTrue(live == other)
        live.undo()
        live.do(("home",))
        other.undo()
        other.redo()
        self.assertEqual(other.log(), [FIRST, ("supermove", (1, 2, 1))])
        other.undo()
        other.undo()
        self.assertTrue(same(other.position(), TABLE))
        self.assertEqual(live.log(), [FIRST, ("home",)])

    def test_equal_and_unequal(self):
        live = LiveTable(SMALL, TABLE)
        self.assertTrue(live == LiveTable(SMALL, TABLE))
        self.assertFalse(live == LiveTable((3, 2, "any"), TABLE))
        self.assertFalse(live == LiveTable(SMALL, (TABLE[0][::-1], TABLE[1], TABLE[2])))
        for value in junk() + [TABLE, (SMALL, TABLE)]:
            self.assertFalse(live == value or value == live)
            self.assertTrue(live != value)
        # The same position by other deeds, and the same deeds from another position.
        one, two = LiveTable(SMALL, TABLE), LiveTable(SMALL, TABLE)
        one.do(FIRST)
        two.do(("read", "a2"))
        self.assertEqual([one.position(), one.game()], [two.position(), two.game()])
        self.assertFalse(one == two)
        # What was undone, and where it began, does not count.
        one.undo()
        self.assertTrue(one == live)
        begun = LiveTable(SMALL, TABLE[:1] + ([None, (2, 0)], [1, 1]))
        begun.do(("home",))
        two = LiveTable(SMALL, TABLE)
        two.do(("home",))
        self.assertTrue(begun == two)


class Kept(unittest.TestCase):
    def test_what_is_given_may_be_changed(self):
        columns = [[(3, 0), (2, 1)], [(3, 1)], []]
        position = (columns, [(2, 0), None], [1, 1])
        live = LiveTable(SMALL, position)
        spoil(position)
        self.assertTrue(same(live.position(), TABLE))
        live.do(FIRST)
        live.undo()
        self.assertTrue(same(live.position(), TABLE))

    def test_what_is_returned_may_be_changed(self):
        live = LiveTable(SMALL, TABLE)
        live.do(FIRST)
        live.do(("home",))
        other = live.copy()
        for name in METHODS:
            spoil(getattr(live, name)())
        self.assertTrue(live == other)
        self.assertEqual(live.game(), other.game())
        live.undo()
        live.undo()
        self.assertTrue(same(live.position(), TABLE))

    def test_by_names(self):
        live = LiveTable(rules=SMALL, position=TABLE)
        live.do(deed=FIRST)
        self.assertIs(is_deed(live=live, value=FIRST), False)
        self.assertTrue(is_rules(live.rules()))


class Errors(unittest.TestCase):
    def test_errors(self):
        refuses(self, lambda rules, position: LiveTable(rules, position), (SMALL, InvalidRules, not_rules()),
                (TABLE, InvalidPosition, not_positions()))
        for value in [one for one in junk() if not isinstance(one, LiveTable)] + [TABLE, LiveTable]:
            for other in [("home",), None]:
                with self.assertRaises(InvalidDeed) as caught:
                    is_deed(value, other)
                self.assertIs(caught.exception.value, value)

    def test_nothing_at_first(self):
        for rules, position in edge_positions() + some_positions(20, 204):
            live = LiveTable(rules, position)
            self.assertTrue(same([live.rules(), live.position(), live.log(), live.game(), live.singles()],
                                 [rules, position, [], [], 0]))
            with self.assertRaises(NothingToUndo):
                live.undo()
            with self.assertRaises(NothingToRedo):
                live.redo()

    def test_up_to_the_limits(self):
        begin = time.perf_counter()
        for rules, position in great_positions()[::3]:
            live = LiveTable(rules, position)
            told = [supermove for supermove, _ in all_supermoves(rules, position)]
            if told:
                live.do(("supermove", max(told, key=lambda supermove: supermove[2])))
            live.do(("home",))
            self.assertTrue(can_go(rules, position, live.game()))
            self.assertEqual(after(rules, position, live.game()), live.position())
            live.hints()
        self.assertLess(time.perf_counter() - begin, 30)
