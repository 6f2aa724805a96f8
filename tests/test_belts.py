import unittest

from beltshares.belts import Belt
from beltshares.errors import BadBelt, WorkError

FAR = 10 ** 60
BAD_ROOMS = [7, 8, 0, -1, -6, FAR, -FAR]
BAD_PACES = [5, 6, 0, -1, -4, FAR, -FAR]


class Belts(unittest.TestCase):
    """[2.1]"""

    def refused(self, room, pace):
        with self.subTest(room=room, pace=pace):
            with self.assertRaises(BadBelt) as caught:
                Belt(room, pace)
            self.assertIsInstance(caught.exception, WorkError)

    def test_each_room_with_each_pace(self):
        for room in range(1, 7):
            for pace in range(1, 5):
                with self.subTest(room=room, pace=pace):
                    belt = Belt(room, pace)
                    self.assertEqual((belt.room, belt.pace), (room, pace))

    def test_bad_rooms(self):
        for room in BAD_ROOMS:
            for pace in range(1, 5):
                self.refused(room, pace)

    def test_bad_paces(self):
        for pace in BAD_PACES:
            for room in range(1, 7):
                self.refused(room, pace)

    def test_both_bad(self):
        for room in BAD_ROOMS:
            for pace in BAD_PACES:
                self.refused(room, pace)

    def test_a_refusal_changes_nothing(self):
        before = Belt(6, 4)
        self.refused(7, 4)
        self.refused(6, 5)
        after = Belt(6, 4)
        self.assertEqual((before.room, before.pace), (6, 4))
        self.assertEqual((after.room, after.pace), (6, 4))

    def test_belts_keep_their_own_fields(self):
        one = Belt(1, 4)
        other = Belt(5, 2)
        self.assertEqual((one.room, one.pace), (1, 4))
        self.assertEqual((other.room, other.pace), (5, 2))


if __name__ == "__main__":
    unittest.main()
