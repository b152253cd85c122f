"""Point [16]'s lost hands, and [3](d) and [2] for them."""

import unittest

from calledroom.books import book
from calledroom.losing import lost
from calledroom.scenes import begun, stands
from calledroom.steps import may_step, stepped, walked
from calledroom.worlds import is_world
from tests.helper import room, thrown_world, world
from tests.test_rings import do, round_of, thrown_round
from tests.test_steps import DO, one_room

CALL = ("do", None, "r", "e", 0)


def come_of(one, scene):
    """All scenes that come of one, and all pairs of a scene and a hand that steps there."""
    scenes, steps = [scene], []
    for here in scenes:
        for hand in may_step(one, here):
            steps.append((here, hand))
            there = stepped(one, here, hand)[0]
            if there not in scenes:
                scenes.append(there)
    return scenes, steps


def lost_by_words(one, scene):
    """What [16] tells of hands that are lost, word by word."""
    scenes, steps = come_of(one, scene)
    hands = []
    for hand in range(len(one[3])):
        done = [stands(one, here, hand) == ("done",) for here in scenes]
        if not any(done) and hand not in [stepper for here, stepper in steps]:
            hands.append(hand)
    return tuple(hands)


class Lost(unittest.TestCase):
    def told(self, one, weaving, most=5000):
        self.assertTrue(is_world(one))
        return lost(one, walked(one, weaving)[0], most)

    def test_none_at_first(self):
        for one in (
            world([(("say", 0),)]), world([(("go", 0),)]), world([(("take", "p"),)], passes=(("p", 0),)),
            round_of(("a", "b"), ("a", "b")),
        ):
            self.assertEqual(self.told(one, ()), ())

    def test_done_is_not_lost(self):
        one = world([(("say", 0),), (("say", 0),)])
        for weaving in ((0,), (1,), (0, 1)):
            self.assertEqual(self.told(one, weaving), ())

    def test_in_a_ring(self):
        one = round_of(("a", "b"), ("a", "b"))
        self.assertEqual(self.told(one, (0, 1)), ())
        self.assertEqual(self.told(one, (0, 1, 1, 0)), (0, 1))
        self.assertEqual(self.told(round_of(("a",), ("a",)), (0, 0)), (0,))

    def test_one_step_ahead_of_a_ring_none_is_lost_but_who_can_only_come_to_be(self):
        one = round_of(("a", "b"), ("a", "b"))
        # Hand 0 stands in b's row for ever, as hand 1 can but stand in a's; hand 1 has that step yet.
        self.assertEqual(self.told(one, (0, 1, 0)), (0,))
        self.assertEqual(self.told(one, (0, 1, 1)), (1,))

    def test_behind_a_ring(self):
        one = round_of(("a",), ("a", "a", "a"))
        self.assertEqual(self.told(one, (1, 1)), (1,))
        self.assertEqual(self.told(one, (1, 1, 2)), (1, 2))
        self.assertEqual(self.told(one, (1, 2, 0, 1)), (0, 1, 2))

    def test_at_a_bell_that_nobody_calls_any_more(self):
        for manner in ("at once", "when free"):
            deeds = {"d": (("wait", "x", 0),), "e": (("call", "x"),)}
            one = one_room(deeds, [(DO,), (CALL,)], manner, (), (("x", "row"),))
            self.assertEqual(self.told(one, (0, 0)), ())
            self.assertEqual(self.told(one, (1, 1, 0)), ())
            self.assertEqual(self.told(one, (1, 1, 1, 0)), ())
            self.assertEqual(self.told(one, (1, 1, 1, 0, 0)), (0,))
            self.assertEqual(self.told(one, (0, 0, 1)), ())
            self.assertEqual(self.told(one, (0, 0, 1, 1)), ())

    def test_a_call_that_comes_for_one_of_two(self):
        deeds = {"d": (("wait", "x", 0),), "e": (("call", "x"),)}
        one = one_room(deeds, [(DO,), (CALL,), (DO,)], "at once", (), (("x", "row"),))
        self.assertEqual(self.told(one, (0, 0, 2, 2)), (2,))
        self.assertEqual(self.told(one, (2, 2, 0, 0)), (0,))
        self.assertEqual(self.told(one, (2, 2, 0)), ())

    def test_late_where_the_called_one_never_leaves(self):
        rooms = [
            room("a", {"d": (("call", "x"),), "e": (("wait", "x", 0), do("b", "e"))}, "at once", (), (("x", "row"),)),
            room("b", {"d": (do("a", "d"),), "e": (("tell", 0),)}),
        ]
        one = world([(do("b", "d"),), (do("a", "e"),)], rooms)
        self.assertEqual(self.told(one, (1, 1, 0, 0)), ())
        self.assertEqual(self.told(one, (1, 1, 0, 0, 0)), (0,))
        self.assertEqual(self.told(one, (1, 1, 0, 0, 0, 1)), (0, 1))

    def test_a_pass_that_nobody_gives(self):
        one = world([(("take", "p"), ("say", 0)), (("say", 0),)], passes=(("p", 0),))
        self.assertEqual(self.told(one, (0,)), (0,))
        self.assertEqual(self.told(one, (1,)), ())
        self.assertEqual(self.told(one, (0, 1)), (0,))
        one = world([(("take", "p"), ("say", 0)), (("give", "p"),)], passes=(("p", 0),))
        self.assertEqual(self.told(one, (0,)), ())
        self.assertEqual(self.told(one, (0, 1)), ())

    def test_a_pass_that_is_given_once_for_two(self):
        one = world([(("take", "p"), ("say", 0)), (("give", "p"),), (("take", "p"), ("say", 0))], passes=(("p", 0),))
        self.assertEqual(self.told(one, (0, 2)), (2,))
        self.assertEqual(self.told(one, (2, 0)), (0,))
        self.assertEqual(self.told(one, (2, 1, 0)), (0,))

    def test_who_is_let_on_by_a_give_and_done_is_not_lost(self):
        one = world([(("take", "p"),), (("give", "p"),)], passes=(("p", 0),))
        scene = walked(one, (0,))[0]
        self.assertEqual(stands(one, scene, 0), ("pass", "p"))
        self.assertEqual(stands(one, stepped(one, scene, 1)[0], 0), ("done",))
        self.assertEqual(self.told(one, (0,)), ())
        self.assertEqual(self.told(one, (0, 1)), ())
        one = world([(("take", "p"),), (("say", 0),)], passes=(("p", 0),))
        self.assertEqual(self.told(one, (0,)), (0,))

    def test_who_is_let_on_by_a_pass_row(self):
        one = world([(("take", "p"),), (("pass", "p", "q"),)], passes=(("p", 0), ("q", 0)))
        self.assertEqual(self.told(one, (0,)), ())
        self.assertEqual(self.told(one, (0, 1)), (1,))

    def test_a_give_that_is_never_come_to(self):
        one = world([(("take", "p"),), (("go", 2), ("give", "p"), ("say", 0))], passes=(("p", 0),))
        self.assertEqual(self.told(one, (0,)), (0,))

    def test_round_and_round_is_not_lost(self):
        one = world([(("go", 0),), (("take", "p"),)], passes=(("p", 0),))
        self.assertEqual(self.told(one, ()), ())
        self.assertEqual(self.told(one, (1,)), (1,))
        self.assertEqual(self.told(one, (0, 1, 0)), (1,))
        one = one_room({"d": (("go", 0),)}, [(DO,), (DO,)])
        self.assertEqual(self.told(one, (0,)), ())
        self.assertEqual(self.told(one, (0, 1)), (1,))
        self.assertEqual(self.told(one, (1, 0)), (0,))

    def test_the_bound(self):
        for one, weaving in (
            (world([(("say", 0),) * 3]), ()), (world([(("say", 0),) * 3]), (0,)), (world([(("say", 0),) * 3]), (0, 0, 0)),
            (world([(("go", 0),)]), (0, 0)), (round_of(("a", "b"), ("a", "b")), (0, 1, 0, 1)),
            (round_of(("a", "b"), ("a", "b")), (0, 1)), (round_of(("a", "b"), ("a", "b")), ()),
        ):
            many = len(come_of(one, walked(one, weaving)[0])[0])
            full = self.told(one, weaving)
            self.assertIsNotNone(full)
            self.assertEqual(self.told(one, weaving, many), full)
            self.assertEqual(self.told(one, weaving, many + 1), full)
            if many > 1:
                self.assertIsNone(self.told(one, weaving, many - 1))
                self.assertIsNone(self.told(one, weaving, 1))

    def test_the_scene_itself_is_counted(self):
        one = world([(("say", 0),)])
        self.assertIsNone(self.told(one, (), 1))
        self.assertEqual(self.told(one, (), 2), ())
        self.assertEqual(self.told(one, (0,), 1), ())

    def test_scenes_that_do_not_come_of_it_are_not_counted(self):
        one = world([(("say", 0),) * 9])
        self.assertEqual(self.told(one, (0,) * 8, 2), ())
        self.assertIsNone(self.told(one, (0,) * 8, 1))

    def test_as_the_words_say(self):
        sizes = []
        for one in [thrown_world(seed) for seed in range(40)] + [thrown_round(seed) for seed in range(40)]:
            sort, scenes = book(one, 40)
            for scene in scenes or ():
                told = lost(one, scene, 40)
                self.assertEqual(told, lost_by_words(one, scene))
                sizes.append(len(told))
        for size in (0, 1, 2):
            self.assertGreater(sizes.count(size), 20)

    def test_none_is_lost_in_begun(self):
        for seed in range(30):
            one = thrown_world(seed)
            self.assertEqual(lost(one, begun(one), 3000), ())

    def test_told_again(self):
        one = round_of(("a", "b"), ("a", "b"))
        self.assertEqual(self.told(one, (0, 1, 0)), self.told(one, (0, 1, 0)))


if __name__ == "__main__":
    unittest.main()
