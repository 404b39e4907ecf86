import unittest

from tests.small import STRANGERS
from willinglift import errors
from willinglift.errors import LiftError

BARE = ["BadLift", "BadFloor", "BadMove", "BadLog", "BadGap", "BadNumber", "BadWay", "NoPlan", "NotGround",
        "BadPrices", "BadRoom", "BadAnswer", "BadCounts", "BadGroup", "NothingDone", "NoLine", "BadLoads", "BadRoad"]
TOLD = {"BadHouse": "part", "BadStanding": "part", "BadGroups": "index", "TooMany": "limit", "BadMoves": "index",
        "BadChoice": "index", "BadNews": "index", "BadText": "index", "NoName": "name", "BadFacts": "index",
        "BadSeen": "index", "BadTree": "part"}


class Errors(unittest.TestCase):
    def test_there_are_just_thirty(self):
        classes = {name for name in dir(errors) if isinstance(getattr(errors, name), type)}
        self.assertEqual(classes, {"LiftError", *BARE, *TOLD})
        self.assertEqual(len(classes), 31)

    def test_each_is_a_direct_subclass(self):
        self.assertEqual(LiftError.__bases__, (ValueError,))
        for name in [*BARE, *TOLD]:
            self.assertEqual(getattr(errors, name).__bases__, (LiftError,), name)
            self.assertEqual(getattr(errors, name).__module__, "willinglift.errors")

    def test_bare_ones_are_made_with_nothing(self):
        for name in BARE:
            with self.assertRaises(LiftError) as caught:
                raise getattr(errors, name)()
            self.assertEqual(caught.exception.__class__.__name__, name)
            self.assertEqual(vars(caught.exception), {})

    def test_attributes_are_kept_as_passed(self):
        for name, attribute in TOLD.items():
            for thing in [*STRANGERS, 0, -1, 20000, "floors", [1, [2]]]:
                error = getattr(errors, name)(thing)
                self.assertIs(getattr(error, attribute), thing, name)
                self.assertEqual(list(vars(error)), [attribute])


if __name__ == "__main__":
    unittest.main()
