"""[5] The errors."""

import unittest

from keyroads import errors

VALUED = ["InvalidNumber", "InvalidNet", "InvalidStanding", "InvalidHouse", "InvalidHouses", "InvalidWorks",
          "InvalidRun", "InvalidWay", "InvalidRing", "InvalidTimes", "InvalidEvent", "InvalidScript", "InvalidMarks",
          "InvalidLine", "InvalidDeed", "Unlike", "TooMany"]
BARE = ["NothingToUndo", "NothingToRedo"]


class Errors(unittest.TestCase):
    def test_road_error_stands_under_value_error_without_a_field(self):
        self.assertEqual(errors.RoadError.__bases__, (ValueError,))
        self.assertEqual(vars(errors.RoadError()), {})
        self.assertFalse(hasattr(errors.RoadError(), "value"))

    def test_all_others_stand_directly_under_it(self):
        for name in VALUED + BARE:
            self.assertEqual(getattr(errors, name).__bases__, (errors.RoadError,), name)

    def test_made_by_position_by_name_and_with_nothing(self):
        held = [1, 2]
        for name in VALUED:
            made = getattr(errors, name)
            self.assertIs(made(held).value, held)
            self.assertIs(made(value=held).value, held)
            self.assertIsNone(made().value)
            self.assertEqual(list(vars(made(held))), ["value"])

    def test_made_with_nothing_alone_have_no_field(self):
        for name in BARE:
            self.assertEqual(vars(getattr(errors, name)()), {})
            self.assertFalse(hasattr(getattr(errors, name)(), "value"))

    def test_each_has_a_class_of_its_own(self):
        self.assertEqual(len({getattr(errors, name) for name in VALUED + BARE}), 19)
        for name in VALUED + BARE:
            self.assertEqual(getattr(errors, name).__name__, name)
            with self.assertRaises(errors.RoadError):
                raise getattr(errors, name)()


if __name__ == "__main__":
    unittest.main()
