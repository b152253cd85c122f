"""Point [15]'s stuck ways, and [3](c) and [2] for them."""

import unittest

from calledroom.books import book
from calledroom.scenes import stands
from calledroom.steps import may_step, walked
from calledroom.stuckness import stuck_way
from calledroom.worlds import is_world
from tests.helper import room, thrown_world, world
from tests.test_books import can_follow
from tests.test_steps import DO, one_room


def crossed(rows):
    """A world of two rooms, deeds of each of which do one of the other's."""
    rooms = [
        room("a", {"d": (("do", None, "b", "e", 0),), "e": (("tell", 0),)}),
        room("b", {"d": (("do", None, "a", "e", 0),), "e": (("tell", 0),)}),
    ]
    return world(rows, rooms)


def is_stuck(one, weaving):
    scene = walked(one, weaving)[0]
    places = [stands(one, scene, hand)[0] for hand in range(len(one[3]))]
    return not set(places) & {"out", "within", "called"} and set(places) != {"done"}


def first_stuck(one, longest):
    """The first weaving by size that is stuck, of all up to this size, or None."""
    weavings = [()]
    for size in range(longest + 1):
        for weaving in weavings:
            if is_stuck(one, weaving):
                return weaving
        weavings = [weaving + (hand,) for weaving in weavings for hand in can_follow(one, weaving)]
    return None


class StuckWays(unittest.TestCase):
    def told(self, one, most):
        self.assertTrue(is_world(one))
        return stuck_way(one, most)

    def test_never(self):
        for one in (
            world([(("say", 0),)]), world([(("go", 0),)]), world([(("go", 0),), (("say", 0),)]),
            one_room({"d": (("tell", 1),)}, [(DO,)] * 3),
            world([(("take", "p"), ("give", "p"))] * 3, passes=(("p", 1),)),
        ):
            self.assertEqual(self.told(one, 5000), ("never", None))

    def test_the_scene_in_which_all_are_done_is_not_stuck(self):
        one = world([(("take", "p"),), (("give", "p"),)], passes=(("p", 0),))
        self.assertEqual(self.told(one, 50), ("never", None))

    def test_one_alone(self):
        self.assertEqual(self.told(world([(("take", "p"),)], passes=(("p", 0),)), 2), ("way", (0,)))
        self.assertEqual(self.told(world([(("take", "p"),) * 4], passes=(("p", 2),)), 9), ("way", (0, 0, 0)))
        self.assertEqual(self.told(one_room({"d": (("wait", "x", 0),)}, [(DO,)], bells=(("x", "row"),)), 9), ("way", (0, 0)))

    def test_a_deed_that_does_one_of_its_own_room(self):
        deeds = {"d": (("do", None, "r", "e", 0),), "e": (("tell", 0),)}
        self.assertEqual(self.told(one_room(deeds, [(DO,)]), 9), ("way", (0, 0)))
        self.assertEqual(self.told(one_room(deeds, [(DO,), (("say", 0),)]), 9), ("way", (0, 0, 1)))

    def test_rooms_crossed(self):
        one = crossed([(("do", None, "a", "d", 0),), (("do", None, "b", "d", 0),)])
        self.assertEqual(self.told(one, 500), ("way", (0, 1, 0, 1)))
        one = crossed([(("do", None, "b", "d", 0),), (("do", None, "a", "d", 0),)])
        self.assertEqual(self.told(one, 500), ("way", (0, 1, 0, 1)))

    def test_passes_crossed(self):
        one = world([(("take", "p"), ("take", "q")), (("take", "q"), ("take", "p"))], passes=(("p", 1), ("q", 1)))
        self.assertEqual(self.told(one, 500), ("way", (0, 0, 1)))

    def test_the_shorter_way_is_told(self):
        # Hand 0 comes to its take in four steps, or in two of its own behind one of hand 1's.
        rows = (("unless", "o", 3), ("say", 0), ("say", 0), ("take", "p"))
        one = world([rows, (("put", "o", 0),)], passes=(("p", 0),), shared=(("o", 1),))
        self.assertEqual(self.told(one, 500), ("way", (1, 0, 0)))

    def test_the_first_of_one_size_is_told(self):
        one = world([(("say", 0), ("say", 0), ("take", "p")), (("take", "p"), ("take", "q"))], passes=(("p", 1), ("q", 0)))
        self.assertEqual(self.told(one, 500), ("way", (0, 0, 0, 1)))
        one = world([(("say", 0),), (("take", "p"),)], passes=(("p", 0),))
        self.assertEqual(self.told(one, 500), ("way", (0, 1)))

    def test_a_way_only_where_one_is_first(self):
        rows = (("unless", "o", 6),) + (("say", 0),) * 4 + (("take", "p"),)
        one = world([rows, (("put", "o", 0),)], passes=(("p", 0),), shared=(("o", 1),))
        self.assertEqual(self.told(one, 500), ("way", (0, 0, 0, 0, 0, 0, 1)))

    def test_open_ahead_of_both(self):
        for one in (
            world([(("take", "p"), ("say", 0))], passes=(("p", 0),)), world([(("say", 0),)]),
            crossed([(("do", None, "a", "d", 0),), (("do", None, "b", "d", 0),)]),
        ):
            many = len(book(one, 500)[1])
            self.assertEqual(self.told(one, many - 1), ("open", None))
            self.assertNotEqual(self.told(one, many), ("open", None))
            self.assertEqual(self.told(one, many), self.told(one, many + 1))
            self.assertEqual(self.told(one, 1), ("open", None))

    def test_open_where_a_way_was_seen(self):
        one = world([(("take", "p"),), (("unless", "o", 3), ("take", "p"), ("go", 3), ("say", 0), ("go", 0))], passes=(("p", 0),), shared=(("o", 1),))
        many = len(book(one, 500)[1])
        self.assertEqual(self.told(one, many)[0], "way")
        self.assertEqual(self.told(one, many - 1), ("open", None))

    def test_as_all_weavings_lead(self):
        ways = 0
        for seed in range(40):
            one = thrown_world(seed)
            sort, way = self.told(one, 3000)
            first = first_stuck(one, 6)
            if first is not None or (sort == "way" and len(way) <= 6):
                ways += 1
                self.assertEqual((sort, way), ("way", first))
        self.assertGreater(ways, 5)

    def test_held_against_the_book(self):
        sorts = []
        for seed in range(80):
            one = thrown_world(seed)
            sort, way = self.told(one, 3000)
            sorts.append(sort)
            stuck = [scene for scene in book(one, 3000)[1] if self.is_stuck_scene(one, scene)]
            if sort == "never":
                self.assertEqual(stuck, [])
                self.assertIsNone(way)
            else:
                self.assertEqual(walked(one, way)[0], stuck[0])
        self.assertEqual(sorted(set(sorts)), ["never", "way"])

    def is_stuck_scene(self, one, scene):
        done = [stands(one, scene, hand) == ("done",) for hand in range(len(one[3]))]
        return may_step(one, scene) == [] and not all(done)

    def test_told_again(self):
        one = thrown_world(5)
        self.assertEqual(stuck_way(one, 500), stuck_way(one, 500))


if __name__ == "__main__":
    unittest.main()
