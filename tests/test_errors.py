"""[5]: the errors."""

import unittest

import supermoves.errors as errors

WITH_VALUE = ["InvalidNumber", "InvalidRules", "InvalidCard", "InvalidPosition", "InvalidPlace", "InvalidMove",
              "InvalidGame", "InvalidKind", "InvalidRoom", "InvalidPlan", "InvalidSupermove", "InvalidText",
              "InvalidDeed", "TooMany", "Stuck"]
WITH_NOTHING = ["NothingToUndo", "NothingToRedo"]


class Errors(unittest.TestCase):
    def test_move_error_is_made_like_a_value_error(self):
        self.assertEqual(errors.MoveError.__bases__, (ValueError,))
        for arguments in [(), ("why",), (1, [2])]:
            made = errors.MoveError(*arguments)
            self.assertEqual(made.args, ValueError(*arguments).args)
            self.assertEqual(str(made), str(ValueError(*arguments)))
            self.assertFalse(hasattr(made, "value"))

    def test_each_one_is_directly_under_it(self):
        for name in WITH_VALUE + WITH_NOTHING:
            self.assertEqual(getattr(errors, name).__bases__, (errors.MoveError,), name)

    def test_the_value_is_the_argument_itself(self):
        for name in WITH_VALUE:
            for value in [None, 3, True, "x", [1, 2], ({}, [])]:
                self.assertIs(getattr(errors, name)(value).value, value)
                self.assertIs(getattr(errors, name)(value=value).value, value)
            self.assertIsNone(getattr(errors, name)().value)

    def test_two_are_made_with_nothing(self):
        for name in WITH_NOTHING:
            self.assertFalse(hasattr(getattr(errors, name)(), "value"))

    def test_they_are_caught_by_what_they_are_under(self):
        for name in WITH_VALUE + WITH_NOTHING:
            for caught in [getattr(errors, name), errors.MoveError, ValueError]:
                with self.assertRaises(caught):
                    raise getattr(errors, name)()

    def test_none_is_another_one(self):
        made = [getattr(errors, name) for name in ["MoveError"] + WITH_VALUE + WITH_NOTHING]
        self.assertEqual(len(set(made)), 18)
