"""Point [17]'s broken ways, and [3](b) and [2] for them."""

import unittest

from calledroom.books import book
from calledroom.promises import broken_way
from calledroom.scenes import begun, stands
from calledroom.steps import may_step, stepped, walked
from calledroom.sums import value_of
from calledroom.worlds import is_world
from tests.helper import room, thrown_world, world
from tests.test_steps import DO, one_room

CALL = ("do", None, "r", "e", 0)
PROMISES = (
    "t", ("not", "t"), ("less", "t", 2), ("same", "t", 0), ("same", "t", 1), ("not", ("same", "t", 2)), 1, 0,
    ("less", 0, ("plus", "t", 1)),
)


def keeps(one, scene, number, promise):
    words = [word for word, value in one[0][number][2]]
    return value_of(promise, dict(zip(words, scene[0][number][0])), {}) != 0


def leaves(one, scene, hand, number):
    """Whether the hand's step from this scene leaves the room, by [17]'s words."""
    at, deed, row, given, told = scene[3][hand][1][-1]
    if at != number or stands(one, scene, hand) != ("within", one[0][number][0]):
        return False
    program = one[0][number][4][deed][1]
    if row == len(program) or program[row][0] == "wait":
        return True
    return program[row][0] == "call" and stepped(one, scene, hand)[0][0][number][1] not in (hand, -1)


def is_broken(one, weaving, number, promise):
    """Whether the promise is broken behind the weaving, by [17]'s words."""
    if weaving and not leaves(one, walked(one, weaving[:-1])[0], weaving[-1], number):
        return False
    return not keeps(one, walked(one, weaving)[0], number, promise)


def ways_that_leave(one, number, longest):
    """All weavings up to this size, by size, that are () or whose last step leaves the room, with the scenes behind."""
    ways, ahead = [((), begun(one))], [((), begun(one))]
    for size in range(longest):
        behind = []
        for weaving, scene in ahead:
            for hand in may_step(one, scene):
                behind.append((weaving + (hand,), stepped(one, scene, hand)[0]))
                if leaves(one, scene, hand, number):
                    ways.append(behind[-1])
        ahead = behind
    return ways


class BrokenWays(unittest.TestCase):
    def told(self, one, promise, most=5000, number=0):
        self.assertTrue(is_world(one))
        return broken_way(one, number, promise, most)

    def one(self, deeds, hands, manner="when free"):
        return one_room(deeds, hands, manner, (("t", 1),), (("x", "row"), ("y", "row")))

    def test_at_first(self):
        one = self.one({"d": (("put", "t", 0),)}, [(DO,)])
        for promise in (0, ("not", "t"), ("same", "t", 2), ("minus", "t", 1)):
            self.assertEqual(self.told(one, promise), ("way", ()))

    def test_at_first_in_a_room_that_nobody_enters(self):
        one = self.one({"d": (("put", "t", 0),)}, [(("say", 0),)])
        self.assertEqual(self.told(one, "t"), ("kept", None))
        self.assertEqual(self.told(one, ("not", "t")), ("way", ()))

    def test_any_value_but_nought_keeps_it(self):
        one = self.one({"d": (("put", "t", 9),)}, [(DO,)])
        self.assertEqual(self.told(one, "t"), ("kept", None))
        self.assertEqual(self.told(one, ("plus", "t", 5)), ("kept", None))
        self.assertEqual(self.told(one, 7), ("kept", None))

    def test_broken_in_between_alone(self):
        one = self.one({"d": (("put", "t", 0), ("tell", 0), ("put", "t", 1))}, [(DO,), (DO,)])
        self.assertEqual(self.told(one, "t"), ("kept", None))

    def test_at_the_end_of_a_deed(self):
        one = self.one({"d": (("put", "t", 0),)}, [(DO,)])
        self.assertEqual(self.told(one, "t"), ("way", (0, 0, 0)))

    def test_mended_only_by_the_next_one_within(self):
        one = self.one({"d": (("put", "t", ("not", "t")),)}, [(DO,), (DO,)])
        self.assertEqual(self.told(one, "t"), ("way", (0, 0, 0)))

    def test_at_a_wait(self):
        one = self.one({"d": (("put", "t", 0), ("wait", "x", 0), ("put", "t", 1))}, [(DO,)])
        self.assertEqual(self.told(one, "t"), ("way", (0, 0, 0)))
        one = self.one({"d": (("put", "t", 1), ("wait", "x", 0), ("put", "t", 0))}, [(DO,)])
        self.assertEqual(self.told(one, "t"), ("kept", None))
        one = self.one({"d": (("wait", "x", 0), ("put", "t", 0)), "e": (("call", "x"),)}, [(DO,), (CALL,)])
        self.assertEqual(self.told(one, "t"), ("way", (0, 0, 1, 1, 0, 1, 0, 0)))

    def test_at_a_call_at_once(self):
        deeds = {"d": (("wait", "x", 0), ("put", "t", 1)), "e": (("put", "t", 0), ("call", "x"), ("put", "t", 1))}
        self.assertEqual(self.told(self.one(deeds, [(DO,), (CALL,)], "at once"), "t"), ("way", (0, 0, 1, 1, 1)))
        self.assertEqual(self.told(self.one(deeds, [(CALL,), (DO,)], "at once"), "t"), ("way", (1, 0, 1, 0, 0)))

    def test_not_at_a_call_at_once_where_nobody_waits(self):
        deeds = {"d": (("wait", "y", 0),), "e": (("put", "t", 0), ("call", "x"), ("put", "t", 1))}
        for hands in ([(CALL,)], [(CALL,), (CALL,)], [(DO,), (CALL,)], [(CALL,), (DO,)]):
            self.assertEqual(self.told(self.one(deeds, hands, "at once"), "t"), ("kept", None))

    def test_not_at_a_call_when_free(self):
        for row in (("call", "x"), ("all", "x")):
            deeds = {"d": (("wait", "x", 0),), "e": (("put", "t", 0), row, ("put", "t", 1))}
            self.assertEqual(self.told(self.one(deeds, [(DO,), (CALL,)]), "t"), ("kept", None))
            self.assertEqual(self.told(self.one(deeds, [(DO,), (CALL,), (DO,)]), "t"), ("kept", None))

    def test_late_ones_leave_at_their_end(self):
        deeds = {"d": (("wait", "x", 0),), "e": (("call", "x"), ("put", "t", 0))}
        one = self.one(deeds, [(DO,), (CALL,)], "at once")
        self.assertEqual(self.told(one, ("less", "t", 2)), ("kept", None))
        self.assertEqual(self.told(one, "t"), ("way", (1, 1, 1, 1)))
        deeds = {"d": (("wait", "x", 0),), "e": (("call", "x"), ("unless", "t", 3), ("put", "t", 0))}
        self.assertEqual(self.told(self.one(deeds, [(CALL,)], "at once"), "t"), ("way", (0, 0, 0, 0, 0)))

    def test_what_an_inner_deed_tells_is_put_within(self):
        rooms = [
            room("r", {"d": (("do", "t", "s", "d", 0), ("put", "t", 1))}, things=(("t", 1),)),
            room("s", {"d": (("tell", 0), ("put", "u", 0))}, things=(("u", 3),)),
        ]
        one = world([(DO,)], rooms)
        self.assertEqual(self.told(one, "t"), ("kept", None))
        self.assertEqual(self.told(one, "u", number=1), ("way", (0,) * 5))
        self.assertEqual(self.told(one, ("less", "u", 4), number=1), ("kept", None))

    def test_a_do_of_another_room_does_not_leave(self):
        rooms = [
            room("r", {"d": (("put", "t", 0), ("do", None, "s", "d", 0), ("put", "t", 1))}, things=(("t", 1),)),
            room("s", {"d": (("wait", "x", 0),), "e": (("call", "x"),)}, "at once", (), (("x", "row"),)),
        ]
        one = world([(DO,), (("do", None, "s", "e", 0),)], rooms)
        self.assertEqual(self.told(one, "t"), ("kept", None))

    def test_several_things(self):
        rooms = [room("r", {"d": (("put", "a", "b"), ("put", "b", "c"))}, things=(("a", 1), ("b", 2), ("c", 3)))]
        one = world([(DO,), (DO,)], rooms)
        self.assertEqual(self.told(one, ("less", "a", "c")), ("way", (0, 0, 0, 0, 1, 1, 1, 1)))
        self.assertEqual(self.told(one, ("same", "c", 3)), ("kept", None))
        self.assertEqual(self.told(one, ("less", "a", "b")), ("way", (0, 0, 0, 0, 1, 1, 1, 1)))
        self.assertEqual(self.told(one, ("less", ("plus", "a", "b"), 5)), ("way", (0, 0, 0, 0)))

    def test_a_room_without_things(self):
        one = one_room({"d": (("tell", 0),)}, [(DO,)])
        self.assertEqual(self.told(one, 1), ("kept", None))
        self.assertEqual(self.told(one, 0), ("way", ()))

    def test_the_first_by_size(self):
        # Hand 1 needs but one row to break it, hand 0 two.
        deeds = {"d": (("tell", 0), ("put", "t", 0)), "e": (("put", "t", 0),)}
        self.assertEqual(self.told(self.one(deeds, [(DO,), (CALL,)]), "t"), ("way", (1, 1, 1)))
        self.assertEqual(self.told(self.one(deeds, [(DO,), (DO,)]), "t"), ("way", (0, 0, 0, 0)))
        self.assertEqual(self.told(self.one(deeds, [(CALL,), (CALL,)]), "t"), ("way", (0, 0, 0)))
        self.assertEqual(self.told(self.one(deeds, [(("say", 0), CALL), (CALL,)]), "t"), ("way", (1, 1, 1)))

    def test_a_scene_that_is_come_to_in_two_ways(self):
        # Values behind a step that doesn't leave are not asked, though another step that leaves leads to the same.
        deeds = {"d": (("put", "t", ("minus", "t", 1)),), "e": (("tell", 0),)}
        one = self.one(deeds, [(CALL, DO), (CALL,)])
        self.assertEqual(self.told(one, "t"), ("way", (0, 0, 0, 0, 0, 0)))

    def test_open_ahead_of_all(self):
        deeds = {"d": (("put", "t", 0), ("wait", "x", 0)), "e": (("call", "x"), ("put", "t", 1))}
        one = self.one(deeds, [(DO,), (CALL,)], "at once")
        many = len(book(one, 500)[1])
        for promise, told in (("t", ("way", (0, 0, 0))), (0, ("way", ())), (1, ("kept", None))):
            self.assertEqual(self.told(one, promise, many), told)
            self.assertEqual(self.told(one, promise, many + 1), told)
            self.assertEqual(self.told(one, promise, many - 1), ("open", None))
            self.assertEqual(self.told(one, promise, 1), ("open", None))

    def test_as_all_weavings_lead(self):
        sizes = []
        for seed in range(30):
            one = thrown_world(seed)
            for number in (0, 1):
                ways = ways_that_leave(one, number, 7)
                for promise in PROMISES:
                    sort, way = self.told(one, promise, 3000, number)
                    broken = [weaving for weaving, scene in ways if not keeps(one, scene, number, promise)]
                    if broken or (sort == "way" and len(way) <= 7):
                        self.assertEqual((sort, way), ("way", broken[0]))
                        sizes.append(len(broken[0]))
        self.assertGreater(len([size for size in sizes if size > 0]), 20)

    def test_held_against_each_step(self):
        sorts = []
        for seed in range(60):
            one = thrown_world(seed)
            for number, promise in ((0, "t"), (1, ("not", "t")), (1, ("less", "t", 2))):
                sort, way = self.told(one, promise, 3000, number)
                sorts.append(sort)
                if sort == "kept":
                    self.assertIsNone(way)
                    self.assertFalse(self.breaks_somewhere(one, number, promise))
                else:
                    self.assertTrue(is_broken(one, way, number, promise))
        self.assertEqual(sorted(set(sorts)), ["kept", "way"])

    def breaks_somewhere(self, one, number, promise):
        if not keeps(one, begun(one), number, promise):
            return True
        for scene in book(one, 3000)[1]:
            if scene[0][number][1] == -1 and not keeps(one, scene, number, promise):
                return True
            for hand in may_step(one, scene):
                if leaves(one, scene, hand, number) and not keeps(one, stepped(one, scene, hand)[0], number, promise):
                    return True
        return False

    def test_told_again(self):
        one = self.one({"d": (("put", "t", 0),)}, [(DO,)])
        self.assertEqual(self.told(one, "t"), self.told(one, "t"))


if __name__ == "__main__":
    unittest.main()
