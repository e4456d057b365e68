"""Point 18: the errors; and point 2 of what they keep."""

import unittest

from fewplaymany import errors
from fewplaymany.errors import HandError
from helpers import Case, some_values

NAMES = (
    "BadLot BadValue BadHand BadWeaving NoProgram HasBoxes BadProgram Wide BadWords BadBoxes NotAsking Done "
    "BadAnswer BadRun BadText NotSwapped BadMany BadRow NoRow NotCome CameIn BadTurns NotPlayed BadTask NoWords "
    "OtherWords BadPairs NotDone BadTable BadRounds BadStops NoBox Twice OtherHands NotFilled TooMany Stopped "
    "NotStopped Watched NotWatched NothingToUndo NothingToRedo NoBlock BadJournal BadLine"
).split(" ")


class Errors(Case):
    def test_hand_error_stands_directly_below_value_error(self):
        self.assertEqual(HandError.__bases__, (ValueError,))
        self.assertEqual(HandError.__module__, "fewplaymany.errors")

    def test_every_error_stands_directly_below_hand_error(self):
        for name in NAMES:
            error = getattr(errors, name)
            self.assertEqual(error.__bases__, (HandError,), name)
            self.assertEqual((error.__name__, error.__module__), (name, "fewplaymany.errors"))

    def test_there_are_no_others(self):
        found = [name for name in vars(errors) if not name.startswith("__")]
        self.assertEqual(sorted(found), sorted(NAMES + ["HandError"]))

    def test_each_keeps_its_only_argument(self):
        for name in NAMES + ["HandError"]:
            error = getattr(errors, name)
            for value in some_values():
                made = error(value)
                self.assertIs(made.value, value)
                with self.assertRaises(HandError) as held:
                    raise made
                self.assertIs(held.exception, made)

    def test_each_takes_just_one_argument(self):
        for name in NAMES + ["HandError"]:
            error = getattr(errors, name)
            self.assertRaises(TypeError, error)
            self.assertRaises(TypeError, error, 1, 2)


if __name__ == "__main__":
    unittest.main()
