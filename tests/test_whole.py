"""Point [3](a), step by step through the books of worlds by number."""

import unittest

from calledroom.books import book
from calledroom.scenes import begun, stands
from calledroom.steps import may_step, stepped
from tests.helper import thrown_world


def hands_in_lines(scene):
    """Each hand that stands in a row, late or at a bell, as often as it does."""
    hands = [hand for value, row in scene[1] for hand in row]
    for values, within, row, late, bells in scene[0]:
        hands += list(row) + list(late) + [hand for line in bells for turn, hand in line]
    return hands


def went_in_order(before, after):
    """Whether the one line came of the other by the first going, one coming behind all, or both."""
    return after[:len(before)] == before or after[:len(before) - 1] == before[1:]


class OnePlace(unittest.TestCase):
    def test_each_hand_stands_in_one_place(self):
        seen = set()
        for seed in range(60):
            one = thrown_world(seed)
            for scene in book(one, 3000)[1]:
                lines = hands_in_lines(scene)
                self.assertEqual(len(lines), len(set(lines)))
                for hand in range(len(one[3])):
                    place = stands(one, scene, hand)[0]
                    seen.add(place)
                    self.assertEqual(place in ("pass", "row", "late", "bell"), hand in lines)
                    self.assertEqual(hand in may_step(one, scene), place in ("out", "within", "called"))
        self.assertEqual(sorted(seen), ["bell", "called", "done", "late", "out", "pass", "row", "within"])

    def test_who_is_within_is_at_a_deed_there(self):
        for seed in range(60):
            for scene in book(thrown_world(seed), 3000)[1]:
                for number, state in enumerate(scene[0]):
                    if state[1] == -1:
                        self.assertEqual((state[2], state[3]), ((), ()))
                    else:
                        self.assertIn(number, [frame[0] for frame in scene[3][state[1]][1]])


class EachStep(unittest.TestCase):
    def each_step(self):
        for seed in range(60):
            one = thrown_world(seed)
            for scene in book(one, 3000)[1]:
                for hand in may_step(one, scene):
                    yield one, scene, hand, stepped(one, scene, hand)[0]

    def test_rooms_are_changed_by_the_one_within_alone(self):
        for one, before, hand, after in self.each_step():
            for old, new in zip(before[0], after[0]):
                if (old[0], old[3], old[4]) != (new[0], new[3], new[4]) or old[2] != new[2][:len(old[2])]:
                    self.assertEqual(old[1], hand)
                if old[1] != new[1]:
                    self.assertIn(old[1], (hand, -1))

    def test_who_comes_in(self):
        called = 0
        for one, before, hand, after in self.each_step():
            for old, new in zip(before[0], after[0]):
                values, within, row, late, bells = old
                if within == new[1]:
                    continue
                if within == -1:
                    self.assertEqual(new[1], hand)
                elif hand in new[3]:
                    called += 1
                    self.assertIn(new[1], [line[0][1] for line in bells if line])
                    self.assertEqual((new[2], new[3]), (row, late + (hand,)))
                elif late:
                    self.assertEqual((new[1], new[2], new[3]), (late[0], row, late[1:]))
                elif row:
                    self.assertEqual((new[1], new[2], new[3]), (row[0], row[1:], ()))
                else:
                    self.assertEqual((new[1], new[2], new[3]), (-1, (), ()))
        self.assertGreater(called, 10)

    def test_lines_are_let_on_in_order(self):
        for one, before, hand, after in self.each_step():
            for old, new in zip(before[1], after[1]):
                self.assertTrue(went_in_order(old[1], new[1]))
            for old, new in zip(before[0], after[0]):
                self.assertTrue(went_in_order(old[2], new[2]))
                self.assertTrue(went_in_order(old[3], new[3]))
                for line in new[4]:
                    self.assertEqual([turn for turn, waiter in line], sorted([turn for turn, waiter in line]))

    def test_other_hands_stay_where_they_are_in_their_programs(self):
        for one, before, hand, after in self.each_step():
            for other in range(len(one[3])):
                if other != hand:
                    self.assertEqual(before[3][other], after[3][other])

    def test_begun_is_the_first(self):
        for seed in range(60):
            one = thrown_world(seed)
            self.assertEqual(book(one, 3000)[1][0], begun(one))


if __name__ == "__main__":
    unittest.main()
