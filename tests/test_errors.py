"""The refusals, as the interface and [2] tell them."""

import unittest

from calledroom import errors
from calledroom.errors import NoLine, NoManner, NoPasses, NoRooms, NoStep, NoText, RoomError


class Refusals(unittest.TestCase):
    def test_all_stand_straight_under_one(self):
        kinds = [kind for kind in vars(errors).values() if isinstance(kind, type) and kind is not RoomError]
        self.assertEqual(set(kinds), {NoStep, NoText, NoManner, NoPasses, NoRooms, NoLine})
        for kind in kinds:
            self.assertEqual(kind.__bases__, (RoomError,))
        self.assertEqual(RoomError.__bases__, (ValueError,))

    def test_values(self):
        for number in (0, 1, 7, 2000):
            self.assertEqual(NoStep(number).place, number)
            self.assertEqual(NoText(number).row, number)

    def test_made_with_a_text(self):
        for kind in (RoomError, NoManner, NoPasses, NoRooms, NoLine):
            self.assertEqual(str(kind("why it can't be")), "why it can't be")
            with self.assertRaises(RoomError):
                raise kind("")


if __name__ == "__main__":
    unittest.main()
