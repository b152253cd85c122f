"""Point [19]'s crowds and marks, and [2] for them."""

import unittest

from calledroom.books import book
from calledroom.crowds import crowd_of, marks_of
from calledroom.scenes import begun
from calledroom.steps import may_step, stepped, walked
from calledroom.worlds import is_world
from tests.helper import own, thrown_world, world
from tests.talking import closed, marks, thrown_talk


def rows_at(*rows):
    """The scene of a world of hands alone in which they are at these rows."""
    return ((), (), (), tuple([((), (own(row),)) for row in rows]))


class Crowds(unittest.TestCase):
    def told(self, one, *weavings):
        self.assertTrue(is_world(one))
        return crowd_of(one, tuple([walked(one, weaving)[0] for weaving in weavings]))

    def test_a_scene_alone(self):
        one = world([(("say", 0), ("say", 1))])
        for many in range(3):
            self.assertEqual(self.told(one, (0,) * many), (rows_at(many),))

    def test_steps_without_an_event_are_gone_on(self):
        one = world([(("put", "o", 1), ("put", "o", 2), ("say", 0), ("put", "o", 3))], shared=(("o", 0),))
        scenes = [walked(one, (0,) * many)[0] for many in range(5)]
        self.assertEqual(self.told(one, ()), tuple(sorted(scenes[:3])))
        self.assertEqual(self.told(one, (0,)), tuple(sorted(scenes[1:3])))
        self.assertEqual(self.told(one, (0, 0)), (scenes[2],))
        self.assertEqual(self.told(one, (0, 0, 0)), tuple(sorted(scenes[3:])))

    def test_rising_not_as_found(self):
        one = world([(("put", "o", 5), ("put", "o", 1), ("go", 0))], shared=(("o", 9),))
        crowd = self.told(one, ())
        self.assertEqual([(scene[2], scene[3][0][1][0][2]) for scene in crowd], [((1,), 0), ((1,), 2), ((5,), 1), ((9,), 0)])

    def test_several(self):
        one = world([(("say", 0), ("say", 1), ("go", 3)), (("say", 0),)])
        expected = (rows_at(0, 0), rows_at(1, 1), rows_at(2, 0), rows_at(3, 0))
        for weavings in (
            ((), (0, 0), (0, 1)), ((0, 1), (0, 0), ()), ((0, 0), (), (0, 1), (1, 0), (0, 0), ()),
            ((0, 0, 0), (), (0, 1), (0, 0)),
        ):
            self.assertEqual(self.told(one, *weavings), expected)

    def test_rounds(self):
        one = world([(("go", 1), ("go", 0))])
        for weaving in ((), (0,), (0, 0)):
            self.assertEqual(self.told(one, weaving), (rows_at(0), rows_at(1)))

    def test_a_crowd_itself(self):
        for seed in range(40):
            one = thrown_talk(seed)
            crowd = crowd_of(one, (begun(one),))
            self.assertEqual(crowd_of(one, crowd), crowd)
            self.assertEqual(crowd_of(one, crowd[::-1] + crowd), crowd)

    def test_closed_by_steps_without_an_event_alone(self):
        for seed in range(40):
            one = thrown_talk(seed)
            for scene in book(one, 500)[1]:
                crowd = crowd_of(one, (scene,))
                self.assertIn(scene, crowd)
                for member in crowd:
                    for hand in may_step(one, member):
                        reached, event = stepped(one, member, hand)
                        self.assertTrue(event is not None or reached in crowd)

    def test_as_the_words_say(self):
        sizes = set()
        for one in [thrown_talk(seed) for seed in range(40)] + [thrown_world(seed) for seed in range(10)]:
            self.assertTrue(is_world(one))
            scenes = book(one, 100)[1] or ()
            for at, scene in enumerate(scenes):
                self.assertEqual(crowd_of(one, (scene,)), closed(one, [scene]))
                picked = (scenes[-1 - at], scene, scenes[at // 2], scene)
                self.assertEqual(crowd_of(one, picked), closed(one, picked))
                sizes.add(len(crowd_of(one, picked)))
        self.assertGreater(len(sizes), 10)

    def test_told_again(self):
        one = thrown_talk(5)
        self.assertEqual(crowd_of(one, (begun(one),)), crowd_of(one, (begun(one),)))


class Marks(unittest.TestCase):
    def told(self, one, weaving=()):
        self.assertTrue(is_world(one))
        events, done, stuck = told = marks_of(one, crowd_of(one, (walked(one, weaving)[0],)))
        self.assertIsInstance(told, tuple)
        self.assertIsInstance(events, tuple)
        self.assertIsInstance(done, bool)
        self.assertIsInstance(stuck, bool)
        return told

    def test_none(self):
        self.assertEqual(self.told(world([(("go", 0),)])), ((), False, False))
        self.assertEqual(self.told(world([(("go", 0),), (("put", "o", 1),)], shared=(("o", 0),))), ((), False, False))

    def test_events_rise(self):
        one = world([(("say", 7),), (("say", 3),), (("say", 5),)])
        self.assertEqual(self.told(one), (((0, 7), (1, 3), (2, 5)), False, False))
        self.assertEqual(self.told(one, (1,)), (((0, 7), (2, 5)), False, False))
        one = world([(("unless", "o", 3), ("say", 1), ("go", 4), ("say", 0)), (("put", "o", 1),)], shared=(("o", 0),))
        self.assertEqual(self.told(one), (((0, 0), (0, 1)), False, False))

    def test_each_once(self):
        one = world([(("say", 4),), (("put", "o", 1), ("put", "o", 2))], shared=(("o", 0),))
        self.assertEqual(self.told(one), (((0, 4),), False, False))

    def test_done(self):
        one = world([(("put", "o", 1),), (("put", "o", 1),)], shared=(("o", 0),))
        for weaving in ((), (0,), (1,), (0, 1)):
            self.assertEqual(self.told(one, weaving), ((), True, False))
        self.assertEqual(self.told(world([(("say", 0),)]), (0,)), ((), True, False))

    def test_stuck(self):
        one = world([(("take", "p"),)], passes=(("p", 0),))
        self.assertEqual(self.told(one), ((), False, True))
        self.assertEqual(self.told(one, (0,)), ((), False, True))

    def test_done_and_stuck_and_events(self):
        # Hand 0 takes or goes on, as hand 1 was there ahead of it or not.
        one = world([(("unless", "o", 2), ("take", "p")), (("put", "o", 1),)], passes=(("p", 0),), shared=(("o", 0),))
        self.assertEqual(self.told(one), ((), True, True))
        self.assertEqual(self.told(one, (1,)), ((), False, True))
        self.assertEqual(self.told(one, (0,)), ((), True, False))
        rows = (("unless", "o", 3), ("take", "p"), ("say", 9))
        one = world([rows, (("put", "o", 1), ("unless", "o", 2))], passes=(("p", 0),), shared=(("o", 0),))
        self.assertEqual(self.told(one), ((), True, True))
        rows = (("unless", "o", 3), ("take", "p"), ("go", 4), ("unless", "o", 5), ("say", 9), ("say", 8))
        one = world([rows, (("put", "o", 1),)], passes=(("p", 0),), shared=(("o", 0),))
        self.assertEqual(self.told(one), (((0, 8), (0, 9)), False, True))

    def test_one_that_may_step_yet_is_neither(self):
        one = world([(("take", "p"),), (("say", 0),)], passes=(("p", 0),))
        self.assertEqual(self.told(one), (((1, 0),), False, False))
        self.assertEqual(self.told(one, (1,)), ((), False, True))

    def test_as_the_words_say(self):
        told = set()
        for seed in range(150):
            one = thrown_talk(seed)
            for scene in book(one, 200)[1] or ():
                crowd = crowd_of(one, (scene,))
                told.add(marks_of(one, crowd))
                self.assertEqual(marks_of(one, crowd), marks(one, crowd))
        self.assertGreater(len(told), 12)
        self.assertEqual(set([mark[1:] for mark in told]), {(False, False), (True, False), (False, True), (True, True)})

    def test_told_again(self):
        one = thrown_talk(5)
        crowd = crowd_of(one, (begun(one),))
        self.assertEqual(marks_of(one, crowd), marks_of(one, crowd))


if __name__ == "__main__":
    unittest.main()
