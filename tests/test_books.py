"""Point [14]'s books, and [3](c) and [2] for them."""

import unittest

from calledroom.books import book
from calledroom.scenes import begun
from calledroom.steps import walked
from calledroom.worlds import is_world
from tests.helper import own, thrown_world, world
from tests.test_steps import DO, one_room


def scenes_by_weavings(one, longest):
    """All scenes to which weavings of at most this size lead, by the first ones by size; all weavings are tried."""
    scenes, weavings = [], [()]
    for size in range(longest + 1):
        for weaving in weavings:
            scene = walked(one, weaving)[0]
            if scene not in scenes:
                scenes.append(scene)
        weavings = [weaving + (hand,) for weaving in weavings for hand in can_follow(one, weaving)]
    return scenes


def can_follow(one, weaving):
    hands = []
    for hand in range(len(one[3])):
        try:
            walked(one, weaving + (hand,))
            hands.append(hand)
        except ValueError:
            pass
    return hands


class Books(unittest.TestCase):
    def told(self, one, most):
        self.assertTrue(is_world(one))
        return book(one, most)

    def test_one_scene(self):
        one = world([(("go", 0),)])
        self.assertEqual(self.told(one, 1), ("all", (begun(one),)))

    def test_order(self):
        one = world([(("say", 0), ("say", 0)), (("say", 0), ("say", 0))])
        rows = [(0, 0), (1, 0), (0, 1), (2, 0), (1, 1), (0, 2), (2, 1), (1, 2), (2, 2)]
        scenes = tuple([((), (), (), (((), (own(first),)), ((), (own(second),)))) for first, second in rows])
        self.assertEqual(self.told(one, 9), ("all", scenes))
        self.assertEqual(self.told(one, 10), ("all", scenes))
        self.assertEqual(self.told(one, 10000), ("all", scenes))

    def test_open(self):
        one = world([(("say", 0), ("say", 0)), (("say", 0), ("say", 0))])
        for most in range(1, 9):
            self.assertEqual(self.told(one, most), ("open", None))

    def test_open_at_the_last_scene(self):
        one = world([(("say", 0),) * 5])
        self.assertEqual([self.told(one, most)[0] for most in (1, 5, 6, 7)], ["open", "open", "all", "all"])

    def test_scenes_are_told_once(self):
        one = world([(("unless", 0, 0),), (("go", 0),)])
        self.assertEqual(self.told(one, 5), ("all", (begun(one),)))
        one = one_room({"d": (("go", 0),)}, [(DO,), (DO,)])
        scenes = self.told(one, 50)[1]
        self.assertEqual(scenes, tuple([walked(one, weaving)[0] for weaving in ((), (0,), (1,), (0, 1), (1, 0))]))

    def test_a_room_by_hand(self):
        one = one_room({"d": (("tell", 1),)}, [(DO,)] * 2)
        scenes = tuple([walked(one, weaving)[0] for weaving in (
            (), (0,), (1,), (0, 0), (0, 1), (1, 0), (1, 1), (0, 0, 0), (0, 0, 1), (1, 0, 1), (1, 1, 1),
            (0, 0, 0, 1), (1, 0, 1, 1), (0, 0, 0, 1, 1), (1, 0, 1, 1, 0), (0, 0, 0, 1, 1, 1),
        )])
        self.assertEqual(self.told(one, 16), ("all", scenes))
        self.assertEqual(self.told(one, 15), ("open", None))

    def test_a_world_with_far_more_weavings_than_scenes(self):
        one = world([(("say", 0),) * 9] * 4)
        told = self.told(one, 10000)
        self.assertEqual((told[0], len(told[1])), ("all", 10000))
        self.assertEqual(self.told(one, 9999), ("open", None))

    def test_as_all_weavings_lead(self):
        tried = 0
        for seed in range(60):
            one = thrown_world(seed)
            sort, scenes = self.told(one, 60)
            if sort == "all":
                tried += 1
                found = scenes_by_weavings(one, 5)
                self.assertEqual(list(scenes)[:len(found)], found)
        self.assertGreater(tried, 10)

    def test_told_again(self):
        one = thrown_world(3)
        self.assertEqual(book(one, 500), book(one, 500))


if __name__ == "__main__":
    unittest.main()
