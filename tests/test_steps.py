"""Points [11], [12] and [13], and [2] for them."""

import unittest

from calledroom import errors
from calledroom.errors import NoStep, RoomError
from calledroom.scenes import begun, stands
from calledroom.steps import may_step, stepped, walked
from calledroom.worlds import is_world
from tests.helper import own, room, world


class Steps(unittest.TestCase):
    def after(self, one, weaving):
        """The scene behind the weaving, which is one of a world."""
        self.assertTrue(is_world(one))
        return walked(one, weaving)[0]

    def refused(self, place, deed, *things):
        with self.assertRaises(NoStep) as caught:
            deed(*things)
        self.assertEqual(caught.exception.place, place)
        self.assertNotIsInstance(caught.exception.place, bool)


def one_room(deeds, hands, manner="when free", things=(), bells=()):
    """A world of one room called r."""
    return world(hands, [room("r", deeds, manner, things, bells)])


DO = ("do", None, "r", "d", 0)


class RowsOfDeeds(Steps):
    THINGS = (("a", 2), ("b", 5))

    def frame_after(self, rows, many, given=4):
        """The room's values and the last frame behind so many of these rows, done by the one hand."""
        one = one_room({"d": rows}, [(("do", None, "r", "d", given),)], things=self.THINGS, bells=(("x", "row"),))
        scene = self.after(one, (0,) * (many + 1))
        self.assertEqual(scene[0][0][1:], (0, (), (), ((),)))
        self.assertEqual(scene[3][0][1][0], own(1))
        self.assertEqual(len(scene[3][0][1]), 2)
        return scene[0][0][0], scene[3][0][1][1]

    def test_put(self):
        self.assertEqual(self.frame_after((("put", "b", ("plus", "a", "given")),), 0), ((2, 5), (0, 0, 0, 4, 0)))
        self.assertEqual(self.frame_after((("put", "b", ("plus", "a", "given")),), 1), ((2, 6), (0, 0, 1, 4, 0)))
        self.assertEqual(self.frame_after((("put", "a", "b"), ("put", "b", "a")), 2), ((5, 5), (0, 0, 2, 4, 0)))
        self.assertEqual(self.frame_after((("put", "a", ("waits", "x")),), 1), ((0, 5), (0, 0, 1, 4, 0)))
        self.assertEqual(self.frame_after((("put", "a", ("plus", "b", "b")),), 1), ((9, 5), (0, 0, 1, 4, 0)))

    def test_unless(self):
        rows = (("unless", ("same", "given", 4), 2), ("tell", 7), ("tell", 8))
        self.assertEqual(self.frame_after(rows, 1), ((2, 5), (0, 0, 1, 4, 0)))
        self.assertEqual(self.frame_after(rows, 1, 3), ((2, 5), (0, 0, 2, 3, 0)))
        self.assertEqual(self.frame_after((("unless", "b", 0),), 1), ((2, 5), (0, 0, 1, 4, 0)))
        self.assertEqual(self.frame_after((("tell", 1), ("unless", 0, 0)), 2), ((2, 5), (0, 0, 0, 4, 1)))
        self.assertEqual(self.frame_after((("unless", 0, 1),), 1), ((2, 5), (0, 0, 1, 4, 0)))
        self.assertEqual(self.frame_after((("unless", 0, 3), ("tell", 1), ("tell", 2)), 1), ((2, 5), (0, 0, 3, 4, 0)))

    def test_go(self):
        self.assertEqual(self.frame_after((("go", 0),), 3), ((2, 5), (0, 0, 0, 4, 0)))
        self.assertEqual(self.frame_after((("go", 2), ("tell", 1)), 1), ((2, 5), (0, 0, 2, 4, 0)))
        self.assertEqual(self.frame_after((("tell", 3), ("go", 3), ("tell", 1), ("tell", 6)), 3), ((2, 5), (0, 0, 4, 4, 6)))

    def test_tell(self):
        self.assertEqual(self.frame_after((("tell", ("minus", "given", 1)),), 1), ((2, 5), (0, 0, 1, 4, 3)))
        self.assertEqual(self.frame_after((("tell", 3), ("tell", "b")), 2), ((2, 5), (0, 0, 2, 4, 5)))

    def test_call_and_all_where_nobody_waits(self):
        for row in (("call", "x"), ("all", "x")):
            self.assertEqual(self.frame_after((row,), 1), ((2, 5), (0, 0, 1, 4, 0)))

    def test_the_end_of_a_deed_by_go(self):
        one = one_room({"d": (("go", 2), ("tell", 1))}, [(DO,)])
        self.assertEqual(self.after(one, (0, 0, 0)), ((((), -1, (), (), ()),), (), (), (((), (own(1),)),)))


class RowsOfHands(Steps):
    def one(self, rows, passes=()):
        return ((), passes, (("o", 1), ("p", 2)), (((("a", 3), ("z", 4)), rows),))

    def test_put_to_own_and_open_things(self):
        one = self.one((("put", "a", ("plus", "o", "z")), ("put", "o", "a"), ("put", "z", ("minus", "p", 5)), ("put", "p", 9)))
        self.assertEqual(self.after(one, (0,)), ((), (), (1, 2), (((5, 4), (own(1),)),)))
        self.assertEqual(self.after(one, (0,) * 2), ((), (), (5, 2), (((5, 4), (own(2),)),)))
        self.assertEqual(self.after(one, (0,) * 3), ((), (), (5, 2), (((5, 0), (own(3),)),)))
        self.assertEqual(self.after(one, (0,) * 4), ((), (), (5, 9), (((5, 0), (own(4),)),)))

    def test_own_things_are_each_hands_own(self):
        rows = (("put", "a", 7), ("put", "o", "a"))
        one = ((), (), (("o", 0),), (((("a", 1),), rows), ((("a", 2),), rows)))
        self.assertEqual(self.after(one, (1,)), ((), (), (0,), (((1,), (own(0),)), ((7,), (own(1),)))))
        self.assertEqual(self.after(one, (1, 1, 0)), ((), (), (7,), (((7,), (own(1),)), ((7,), (own(2),)))))

    def test_unless(self):
        one = self.one((("unless", ("same", "a", 3), 3), ("unless", ("less", "a", 3), 3), ("go", 0)))
        self.assertEqual(self.after(one, (0,))[3][0][1], (own(1),))
        self.assertEqual(self.after(one, (0, 0)), ((), (), (1, 2), (((3, 4), (own(3),)),)))
        self.refused(2, walked, one, (0, 0, 0))

    def test_go(self):
        one = self.one((("go", 2), ("go", 3), ("go", 1)))
        self.assertEqual([self.after(one, (0,) * many)[3][0][1] for many in range(4)], [(own(k),) for k in (0, 2, 1, 3)])
        self.assertEqual(may_step(one, self.after(one, (0, 0, 0))), [])

    def test_say(self):
        one = self.one((("say", ("plus", "a", "o")), ("put", "o", 0), ("say", "o")))
        scene, event = stepped(one, begun(one), 0)
        self.assertEqual((scene, event), (((), (), (1, 2), (((3, 4), (own(1),)),)), (0, 4)))
        scene, event = stepped(one, scene, 0)
        self.assertIsNone(event)
        self.assertEqual(stepped(one, scene, 0), (((), (), (0, 2), (((3, 4), (own(3),)),)), (0, 0)))
        self.assertEqual(walked(one, (0, 0, 0))[1], ((0, 4), (0, 0)))

    def test_say_tells_the_hand(self):
        one = world([(("say", 5), ("say", 6))] * 3)
        self.assertEqual(walked(one, (2, 0, 2, 1))[1], ((2, 5), (0, 5), (2, 6), (1, 5)))


class Passes(Steps):
    def passes_after(self, one, weaving):
        scene = self.after(one, weaving)
        return scene[1], [frames[0][2] for values, frames in scene[3]]

    def test_take(self):
        one = world([(("take", "p"), ("take", "p"), ("say", 0))], passes=(("o", 5), ("p", 1), ("q", 5)))
        self.assertEqual(self.passes_after(one, (0,)), (((5, ()), (0, ()), (5, ())), [1]))
        self.assertEqual(self.passes_after(one, (0, 0)), (((5, ()), (0, (0,)), (5, ())), [2]))
        self.assertEqual(may_step(one, self.after(one, (0, 0))), [])
        self.assertEqual(stands(one, self.after(one, (0, 0)), 0), ("pass", "p"))

    def test_take_stands_behind_the_row(self):
        one = world([(("take", "p"),)] * 3, passes=(("p", 0),))
        self.assertEqual(self.passes_after(one, (2, 0, 1)), (((0, (2, 0, 1)),), [1, 1, 1]))

    def test_give_without_a_row(self):
        one = world([(("give", "p"), ("give", "p"))], passes=(("p", 7), ("q", 3)))
        self.assertEqual(self.passes_after(one, (0,)), (((8, ()), (3, ())), [1]))
        self.assertEqual(self.passes_after(one, (0, 0)), (((9, ()), (3, ())), [2]))

    def test_give_of_nine(self):
        one = world([(("give", "p"), ("take", "p"))], passes=(("p", 9),))
        self.assertEqual(self.passes_after(one, (0,)), (((9, ()),), [1]))
        self.assertEqual(self.passes_after(one, (0, 0)), (((8, ()),), [2]))

    def test_give_with_a_row(self):
        one = world([(("take", "p"), ("say", 1))] * 2 + [(("give", "p"),) * 3], passes=(("p", 0),))
        self.assertEqual(self.passes_after(one, (1, 0, 2)), (((0, (0,)),), [1, 1, 1]))
        self.assertEqual(may_step(one, self.after(one, (1, 0, 2))), [1, 2])
        self.assertEqual(self.passes_after(one, (1, 0, 2, 2)), (((0, ()),), [1, 1, 2]))
        self.assertEqual(self.passes_after(one, (1, 0, 2, 2, 2)), (((1, ()),), [1, 1, 3]))

    def test_given_on_behind_its_last_row_it_is_done(self):
        one = world([(("take", "p"),), (("give", "p"),)], passes=(("p", 0),))
        self.assertEqual(stands(one, self.after(one, (0,)), 0), ("pass", "p"))
        self.assertEqual(stands(one, self.after(one, (0, 1)), 0), ("done",))
        self.assertEqual(self.passes_after(one, (0, 1)), (((0, ()),), [1, 1]))

    def test_pass_of_two(self):
        one = world([(("pass", "p", "q"), ("pass", "p", "q"))], passes=(("p", 0), ("q", 1)))
        self.assertEqual(self.passes_after(one, (0,)), (((1, ()), (0, ())), [1]))
        self.assertEqual(self.passes_after(one, (0, 0)), (((2, ()), (0, (0,))), [2]))
        other = world([(("pass", "q", "p"),)], passes=(("p", 2), ("q", 9)))
        self.assertEqual(self.passes_after(other, (0,)), (((1, ()), (9, ())), [1]))

    def test_pass_lets_the_first_of_p_on(self):
        one = world([(("take", "p"),), (("take", "p"),), (("pass", "p", "q"),)], passes=(("p", 0), ("q", 0)))
        self.assertEqual(self.passes_after(one, (1, 0, 2)), (((0, (0,)), (0, (2,))), [1, 1, 1]))

    def test_pass_of_the_same_twice(self):
        for value, left in ((0, 0), (1, 1), (8, 8), (9, 8)):
            one = world([(("pass", "p", "p"),)], passes=(("p", value),))
            self.assertEqual(self.passes_after(one, (0,)), (((left, ()),), [1]))

    def test_pass_of_the_same_twice_with_a_row(self):
        one = world([(("take", "p"), ("say", 0)), (("pass", "p", "p"),), (("take", "p"),)], passes=(("p", 0),))
        self.assertEqual(self.passes_after(one, (0, 2, 1)), (((0, (2, 1)),), [1, 1, 1]))
        self.assertEqual(may_step(one, self.after(one, (0, 2, 1))), [0])


class Doing(Steps):
    def test_do_of_a_free_room(self):
        rooms = [room("q", {"d": (("tell", 0),)}), room("r", {"c": (("tell", 1),), "d": (("tell", 2),)}, things=(("t", 5),))]
        one = (tuple(rooms), (), (("o", 2),), (((("a", 3),), (("do", None, "r", "d", ("plus", "a", "o")),)),))
        self.assertTrue(is_world(one))
        scene, event = stepped(one, begun(one), 0)
        self.assertIsNone(event)
        self.assertEqual(scene, (
            (((), -1, (), (), ()), ((5,), 0, (), (), ())), (), (2,), (((3,), (own(1), (1, 1, 0, 5, 0))),),
        ))

    def test_do_of_a_room_in_which_another_is(self):
        one = one_room({"d": (("tell", 1),)}, [(DO,)] * 3)
        scene = self.after(one, (1, 2, 0))
        self.assertEqual(scene[0], (((), 1, (2, 0), (), ()),))
        self.assertEqual(scene[3], (((), (own(1), (0, 0, 0, 0, 0))),) * 3)
        self.assertEqual(may_step(one, scene), [1])
        self.refused(0, stepped, one, scene, 2)
        self.assertEqual(stands(one, scene, 0), ("row", "r"))

    def test_who_is_let_in_behind_the_end(self):
        one = one_room({"d": (("tell", 1),)}, [(DO,)] * 3)
        scene = self.after(one, (1, 2, 0, 1, 1))
        self.assertEqual(scene[0], (((), 2, (0,), (), ()),))
        self.assertEqual(scene[3][1], ((), (own(1),)))
        self.assertEqual(may_step(one, scene), [2])
        self.assertEqual(self.after(one, (1, 2, 0, 1, 1, 2, 2))[0], (((), 0, (), (), ()),))
        self.assertEqual(self.after(one, (1, 2, 0, 1, 1, 2, 2, 0, 0))[0], (((), -1, (), (), ()),))

    def test_do_of_a_room_that_it_is_in_already(self):
        for manner in ("at once", "when free"):
            rows = {"d": (("do", None, "r", "e", 3),), "e": (("tell", 1),)}
            one = one_room(rows, [(DO,), (("do", None, "r", "e", 0),)], manner)
            scene = self.after(one, (0, 0))
            self.assertEqual(scene[0], (((), 0, (0,), (), ()),))
            self.assertEqual(scene[3][0], ((), (own(1), (0, 0, 1, 0, 0), (0, 1, 0, 3, 0))))
            self.assertEqual(may_step(one, scene), [1])
            self.assertEqual(self.after(one, (0, 0, 1))[0], (((), 0, (0, 1), (), ()),))
            self.assertEqual(may_step(one, self.after(one, (0, 0, 1))), [])

    def test_a_room_by_another_that_it_is_in_already(self):
        rooms = [
            room("q", {"d": (("do", None, "r", "d", 0),), "e": (("tell", 1),)}),
            room("r", {"d": (("do", None, "q", "e", 0),)}),
        ]
        one = world([(("do", None, "q", "d", 0),)], rooms)
        scene = self.after(one, (0, 0, 0))
        self.assertEqual(scene[0], (((), 0, (0,), (), ()), ((), 0, (), (), ())))
        self.assertEqual(may_step(one, scene), [])

    def test_told_is_put_to_own_and_open_things(self):
        deed = room("r", {"d": (("tell", ("plus", "given", 1)),), "e": (("go", 1),)})
        for x, shared, values in (("o", (7,), (5,)), ("a", (4,), (7,)), (None, (4,), (5,))):
            one = ((deed,), (), (("o", 4),), (((("a", 5),), (("say", 0), ("do", x, "r", "d", 6), ("say", 0))),))
            scene = self.after(one, (0,) * 4)
            self.assertEqual(scene, ((((), -1, (), (), ()),), (), shared, ((values, (own(2),)),)))
        # A deed that doesn't tell tells 0.
        one = ((deed,), (), (("o", 4),), (((("a", 5),), (("do", "a", "r", "e", 6),)),))
        self.assertEqual(self.after(one, (0,) * 3)[3], (((0,), (own(1),)),))

    def test_told_is_put_when_the_deed_ends(self):
        one = one_room({"d": (("tell", 8),)}, [(("do", None, "r", "d", 0),)])
        one = (one[0], (), (("o", 4),), (((), (("do", "o", "r", "d", 0),)),))
        self.assertEqual(self.after(one, (0, 0))[2], (4,))
        self.assertEqual(self.after(one, (0, 0, 0))[2], (8,))

    def test_told_is_put_to_a_rooms_thing(self):
        rooms = [
            room("q", {"d": (("do", "b", "r", "d", ("plus", "given", "a")), ("tell", "b"))}, things=(("a", 1), ("b", 2))),
            room("r", {"d": (("put", "b", "given"), ("tell", ("plus", "given", 1)))}, things=(("b", 3),)),
        ]
        one = (tuple(rooms), (), (), (((("b", 4),), (("do", "b", "q", "d", 5),)),))
        self.assertEqual(self.after(one, (0,) * 2), (
            (((1, 2), 0, (), (), ()), ((3,), 0, (), (), ())), (), (),
            (((4,), (own(1), (0, 0, 1, 5, 0), (1, 0, 0, 6, 0))),),
        ))
        self.assertEqual(self.after(one, (0,) * 5), (
            (((1, 7), 0, (), (), ()), ((6,), -1, (), (), ())), (), (), (((4,), (own(1), (0, 0, 1, 5, 0))),),
        ))
        self.assertEqual(self.after(one, (0,) * 7), (
            (((1, 7), -1, (), (), ()), ((6,), -1, (), (), ())), (), (), (((7,), (own(1),)),),
        ))

    def test_the_do_by_which_it_came_is_the_one_ahead(self):
        rows = (("do", "a", "r", "d", 1), ("do", "b", "r", "d", 2), ("do", None, "r", "d", 3), ("do", "a", "r", "d", 4))
        one = ((room("r", {"d": (("tell", "given"),)}),), (), (), (((("a", 0), ("b", 0)), rows),))
        self.assertEqual([self.after(one, (0,) * 3 * many)[3][0][0] for many in range(5)], [(0, 0), (1, 0), (1, 2), (1, 2), (4, 2)])

    def test_do_gone_back_to(self):
        one = ((room("r", {"d": (("tell", ("plus", "given", 1)),)}),), (), (), (((("a", 0),), (("do", "a", "r", "d", "a"), ("go", 0))),))
        self.assertEqual(self.after(one, (0,) * 11), ((((), -1, (), (), ()),), (), (), (((3,), (own(1),)),)))


class Waiting(Steps):
    def test_wait_leaves_the_room_and_goes_on_behind(self):
        for manner in ("at once", "when free"):
            deeds = {"d": (("wait", "x", 7), ("tell", 1)), "e": (("tell", 2),)}
            one = one_room(deeds, [(DO,), (("do", None, "r", "e", 0),)], manner, bells=(("w", "row"), ("x", "row")))
            self.assertEqual(self.after(one, (0, 0)), (
                (((), -1, (), (), ((), ((0, 0),))),), (), (), (((), (own(1), (0, 0, 1, 0, 0))), ((), (own(0),))),
            ))
            self.assertEqual(self.after(one, (0, 1, 0))[0], (((), 1, (), (), ((), ((0, 0),))),))
            self.assertEqual(may_step(one, self.after(one, (0, 0))), [1])
            self.assertEqual(stands(one, self.after(one, (0, 0)), 0), ("bell", "r", "x"))

    def test_wait_lets_the_first_of_the_row_in(self):
        one = one_room({"d": (("wait", "x", 0),)}, [(DO,)] * 4, bells=(("x", "row"),))
        self.assertEqual(self.after(one, (0, 3, 1, 0))[0], (((), 3, (1,), (), (((0, 0),),)),))

    def test_a_bell_of_row(self):
        one = one_room({"d": (("wait", "x", "given"),)}, [(("do", None, "r", "d", turn),) for turn in (5, 2, 9, 2)], bells=(("x", "row"),))
        self.assertEqual(self.after(one, (0, 0, 3, 3, 1, 1, 2, 2))[0], (((), -1, (), (), (((0, 0), (0, 3), (0, 1), (0, 2)),)),))

    def test_a_bell_of_turns(self):
        one = one_room({"d": (("wait", "x", "given"),)}, [(("do", None, "r", "d", turn),) for turn in (5, 2, 9, 5)], bells=(("x", "turns"),))
        for order, line in (
            ((0,), ((5, 0),)),
            ((0, 1), ((2, 1), (5, 0))),
            ((0, 2), ((5, 0), (9, 2))),
            ((0, 3), ((5, 0), (5, 3))),
            ((3, 0), ((5, 3), (5, 0))),
            ((0, 2, 3), ((5, 0), (5, 3), (9, 2))),
            ((2, 3, 1, 0), ((2, 1), (5, 3), (5, 0), (9, 2))),
            ((3, 2, 0, 1), ((2, 1), (5, 3), (5, 0), (9, 2))),
        ):
            weaving = tuple([hand for hand in order for time in range(2)])
            self.assertEqual(self.after(one, weaving)[0], (((), -1, (), (), (line,)),))

    def test_a_turn_is_reckoned_ahead_of_the_wait(self):
        deeds = {"d": (("wait", "x", ("plus", "t", ("waits", "x"))),)}
        one = one_room(deeds, [(DO,)] * 3, things=(("t", 3),), bells=(("x", "turns"),))
        self.assertEqual(self.after(one, (0, 0, 1, 1, 2, 2))[0], (((3,), -1, (), (), (((3, 0), (4, 1), (4, 2)),)),))

    def test_waits_in_sums(self):
        deeds = {"d": (("wait", "x", 0),), "e": (("put", "t", ("waits", "x")), ("put", "u", ("waits", "y")))}
        one = one_room(deeds, [(DO,), (("do", None, "r", "e", 0),)], things=(("t", 5), ("u", 5)), bells=(("x", "row"), ("y", "row")))
        self.assertEqual(self.after(one, (0, 0, 1, 1, 1))[0][0][0], (1, 0))
        self.assertEqual(self.after(one, (1, 1, 1))[0][0][0], (0, 0))

    def test_waits_are_those_of_the_own_room(self):
        rooms = [
            room("q", {"d": (("wait", "x", 0),)}, bells=(("x", "row"),)),
            room("r", {"d": (("tell", ("waits", "x")),)}, bells=(("x", "row"),)),
        ]
        one = world([(("do", None, "q", "d", 0),), (DO,)], rooms)
        self.assertEqual(self.after(one, (0, 0, 1, 1))[3][1][1][1], (1, 0, 1, 0, 0))

    def test_one_that_waits_holds_its_outer_rooms(self):
        rooms = [
            room("q", {"d": (("do", None, "r", "d", 0),)}),
            room("r", {"d": (("wait", "x", 0),)}, bells=(("x", "row"),)),
        ]
        one = world([(("do", None, "q", "d", 0),)], rooms)
        self.assertEqual(self.after(one, (0, 0, 0))[0], (((), 0, (), (), ()), ((), -1, (), (), (((0, 0),),))))


class Calling(Steps):
    DEEDS = {
        "c": (("call", "x"), ("tell", 4)),
        "w": (("wait", "x", 0), ("put", "t", ("plus", "t", 1))),
    }
    W, C = ("do", None, "r", "w", 0), ("do", None, "r", "c", 0)

    def one(self, manner, rows):
        deeds = dict(self.DEEDS)
        if manner == "when free":
            deeds["z"] = (("all", "x"), ("tell", 5))
        return one_room(deeds, [(row,) for row in rows], manner, (("t", 0),), (("v", "row"), ("x", "row")))

    def test_nobody_waits(self):
        for manner in ("at once", "when free"):
            one = self.one(manner, [self.C, self.C])
            scene = self.after(one, (0, 1, 0))
            self.assertEqual(scene[0], (((0,), 0, (1,), (), ((), ())),))
            self.assertEqual(scene[3][0][1], (own(1), (0, 0, 1, 0, 0)))

    def test_at_once(self):
        one = self.one("at once", [self.W, self.W, self.C, self.C])
        scene = self.after(one, (1, 1, 0, 0, 2, 3, 2))
        self.assertEqual(scene[0], (((0,), 1, (3,), (2,), ((), ((0, 0),))),))
        self.assertEqual(scene[3][1][1], (own(1), (0, 1, 1, 0, 0)))
        self.assertEqual(scene[3][2][1], (own(1), (0, 0, 1, 0, 0)))
        self.assertEqual(may_step(one, scene), [1])
        self.assertEqual([stands(one, scene, hand)[0] for hand in range(4)], ["bell", "within", "late", "row"])

    def test_late_comes_ahead_of_the_row(self):
        one = self.one("at once", [self.W, self.W, self.C, self.C])
        weaving = (1, 1, 0, 0, 2, 3, 2, 1, 1)
        self.assertEqual(self.after(one, weaving)[0], (((1,), 2, (3,), (), ((), ((0, 0),))),))
        self.assertEqual(self.after(one, weaving + (2, 2))[0], (((1,), 3, (), (), ((), ((0, 0),))),))

    def test_late_comes_ahead_of_the_row_behind_a_wait(self):
        deeds = {"c": (("call", "x"),), "w": (("wait", "x", 0), ("wait", "x", 0))}
        one = one_room(deeds, [(self.W,), (self.C,), (self.C,)], "at once", bells=(("x", "row"),))
        self.assertEqual(self.after(one, (0, 0, 1, 2, 1))[0], (((), 0, (2,), (1,), ((),)),))
        self.assertEqual(self.after(one, (0, 0, 1, 2, 1, 0))[0], (((), 1, (2,), (), (((0, 0),),)),))

    def test_callers_are_late_in_order(self):
        deeds = {"c": (("call", "x"),), "w": (("wait", "x", 0), ("call", "x"))}
        one = one_room(deeds, [(self.W,), (self.W,), (self.C,)], "at once", bells=(("x", "row"),))
        weaving = (0, 0, 1, 1, 2, 2, 0)
        self.assertEqual(self.after(one, weaving)[0], (((), 1, (), (2, 0), ((),)),))
        self.assertEqual(self.after(one, weaving + (1, 1))[0], (((), 2, (), (0,), ((),)),))
        self.assertEqual(self.after(one, weaving + (1, 1, 2))[0], (((), 0, (), (), ((),)),))

    def test_when_free(self):
        one = self.one("when free", [self.W, self.W, self.C, self.C])
        scene = self.after(one, (1, 1, 0, 0, 2, 3, 2))
        self.assertEqual(scene[0], (((0,), 2, (3,), (), ((), ((0, 0),))),))
        self.assertEqual(scene[3][1][1], (own(1), (0, 1, 1, 0, 0)))
        self.assertEqual(may_step(one, scene), [1, 2])
        self.assertEqual([stands(one, scene, hand)[0] for hand in range(4)], ["bell", "called", "within", "row"])

    def test_a_called_one_stands_behind_the_row(self):
        one = self.one("when free", [self.W, self.W, self.C, self.C])
        scene, event = stepped(one, self.after(one, (1, 1, 0, 0, 2, 3, 2)), 1)
        self.assertIsNone(event)
        self.assertEqual(scene[0], (((0,), 2, (3, 1), (), ((), ((0, 0),))),))
        self.assertEqual(scene[3][1][1], (own(1), (0, 1, 1, 0, 0)))
        self.assertEqual(stands(one, scene, 1), ("row", "r"))

    def test_a_called_one_comes_in_again(self):
        one = self.one("when free", [self.W, self.C])
        weaving = (0, 0, 1, 1, 1, 1)
        self.assertEqual(self.after(one, weaving)[0], (((0,), -1, (), (), ((), ())),))
        scene = self.after(one, weaving + (0,))
        self.assertEqual(scene[0], (((0,), 0, (), (), ((), ())),))
        self.assertEqual(scene[3][0][1], (own(1), (0, 1, 1, 0, 0)))
        self.assertEqual(self.after(one, weaving + (0, 0))[0][0][0], (1,))
        self.assertEqual(self.after(one, weaving + (0, 0, 0))[3][0][1], (own(1),))

    def test_one_that_comes_first_is_within_ahead_of_a_called_one(self):
        one = self.one("when free", [self.W, self.C, self.C])
        self.assertEqual(self.after(one, (0, 0, 1, 1, 1, 1, 2, 0))[0], (((0,), 2, (0,), (), ((), ())),))

    def test_all(self):
        one = self.one("when free", [self.W, self.W, ("do", None, "r", "z", 0), self.C])
        scene = self.after(one, (1, 1, 0, 0, 2, 3, 2))
        self.assertEqual(scene[0], (((0,), 2, (3,), (), ((), ())),))
        self.assertEqual(scene[3][2][1], (own(1), (0, 2, 1, 0, 0)))
        self.assertEqual([stands(one, scene, hand)[0] for hand in range(4)], ["called", "called", "within", "row"])
        self.assertEqual(self.after(one, (1, 1, 0, 0, 2, 3, 2, 0, 1))[0], (((0,), 2, (3, 0, 1), (), ((), ())),))

    def test_calls_and_all_are_of_their_bell_alone(self):
        for row, first in ((("call", "v"), 0), (("all", "v"), 0), (("call", "x"), 1), (("all", "x"), 1)):
            deeds = {"c": (row,), "v": (("wait", "v", 0),), "x": (("wait", "x", 0),)}
            hands = [(("do", None, "r", deed, 0),) for deed in ("v", "x", "c")]
            one = one_room(deeds, hands, bells=(("v", "row"), ("x", "row")))
            bells = [((0, 0),), ((0, 1),)]
            bells[first] = ()
            self.assertEqual(self.after(one, (0, 0, 1, 1, 2, 2))[0], (((), 2, (), (), tuple(bells)),))

    def test_a_call_takes_the_least_turn(self):
        for manner, within, late in (("at once", 1, (2,)), ("when free", 2, ())):
            deeds = {"c": (("call", "x"),), "d": (("wait", "x", "given"),)}
            hands = [(("do", None, "r", "d", 5),), (("do", None, "r", "d", 3),), (self.C,)]
            one = one_room(deeds, hands, manner, bells=(("x", "turns"),))
            self.assertEqual(self.after(one, (0, 0, 1, 1, 2, 2))[0], (((), within, (), late, (((5, 0),),)),))

    def test_a_called_one_within_an_outer_room(self):
        rooms = [
            room("q", {"d": (("do", "t", "r", "w", 0), ("tell", "t"))}, things=(("t", 9),)),
            room("r", {"c": (("call", "x"),), "w": (("wait", "x", 0), ("tell", 3))}, "at once", bells=(("x", "row"),)),
        ]
        one = world([(("do", None, "q", "d", 0),), (self.C,)], rooms)
        weaving = (0, 0, 0, 1, 1)
        self.assertEqual(self.after(one, weaving)[0], (((9,), 0, (), (), ()), ((), 0, (), (1,), ((),))))
        self.assertEqual(self.after(one, weaving + (0, 0))[0], (((3,), 0, (), (), ()), ((), 1, (), (), ((),))))
        self.assertEqual(self.after(one, weaving + (0,) * 4)[3][0][1], (own(1),))


class MayStep(Steps):
    def test_a_new_rising_list(self):
        one = world([(("say", 0),)] * 4)
        told = may_step(one, begun(one))
        self.assertEqual(told, [0, 1, 2, 3])
        self.assertIsInstance(told, list)
        told.append(9)
        self.assertEqual(may_step(one, begun(one)), [0, 1, 2, 3])

    def test_hands_done_are_not_in_it(self):
        one = world([(("say", 0),)] * 3)
        self.assertEqual(may_step(one, self.after(one, (1,))), [0, 2])
        self.assertEqual(may_step(one, self.after(one, (1, 0))), [2])
        self.assertEqual(may_step(one, self.after(one, (1, 0, 2))), [])

    def test_hands_in_rows_late_and_at_bells_are_not_in_it(self):
        deeds = {"c": (("call", "x"),), "w": (("wait", "x", 0),)}
        hands = [(("do", None, "r", "w", 0),)] * 2 + [(("do", None, "r", "c", 0),)] * 2
        one = one_room(deeds, hands, "at once", bells=(("x", "row"),))
        scene = self.after(one, (0, 0, 1, 1, 2, 3, 2))
        self.assertEqual([stands(one, scene, hand)[0] for hand in range(4)], ["within", "bell", "late", "row"])
        self.assertEqual(may_step(one, scene), [0])

    def test_called_ones_are_in_it(self):
        deeds = {"c": (("call", "x"),), "w": (("wait", "x", 0),)}
        one = one_room(deeds, [(("do", None, "r", "w", 0),), (("do", None, "r", "c", 0),)], bells=(("x", "row"),))
        self.assertEqual(may_step(one, self.after(one, (0, 0, 1, 1))), [0, 1])


class Refusals(Steps):
    def test_classes(self):
        self.assertEqual(RoomError.__bases__, (ValueError,))
        kinds = [kind for kind in vars(errors).values() if isinstance(kind, type) and kind is not RoomError]
        self.assertIn(NoStep, kinds)
        for kind in kinds:
            self.assertEqual(kind.__bases__, (RoomError,))
        self.assertEqual(NoStep(4).place, 4)

    def test_stepped(self):
        one = world([(("take", "p"),), (("say", 0),)], passes=(("p", 0),))
        scene = self.after(one, (0, 1))
        for hand in (0, 1, 2, 3, -1, -2, 100):
            self.refused(0, stepped, one, scene, hand)
        for hand in (2, -1, -2, 5):
            self.refused(0, stepped, one, begun(one), hand)

    def test_walked(self):
        one = world([(("say", 0), ("say", 1)), (("take", "p"),)], passes=(("p", 0),))
        self.refused(0, walked, one, (2,))
        self.refused(0, walked, one, (-1, 0))
        self.refused(1, walked, one, (1, 1, 0))
        self.refused(2, walked, one, (0, 0, 0))
        self.refused(3, walked, one, (0, 1, 0, 1, 7))
        self.refused(3, walked, one, (0, 1, 0, 4))

    def test_refused_changes_nothing(self):
        one = world([(("say", 0),)])
        scene = begun(one)
        self.refused(0, stepped, one, scene, 1)
        self.assertEqual(scene, begun(one))
        self.assertEqual(stepped(one, scene, 0)[1], (0, 0))


class Walked(Steps):
    def test_nothing(self):
        one = world([(("say", 0),)], passes=(("p", 3),))
        self.assertEqual(walked(one, ()), (begun(one), ()))

    def test_as_stepped(self):
        one = one_room({"d": (("put", "t", "given"), ("tell", 6))}, [(("do", None, "r", "d", 2), ("say", 3))] * 2, things=(("t", 0),))
        scene, events = begun(one), []
        weaving = (1, 0, 1, 1, 1, 1, 0, 0, 0, 0)
        for many, hand in enumerate(weaving):
            self.assertEqual(walked(one, weaving[:many]), (scene, tuple(events)))
            scene, event = stepped(one, scene, hand)
            if event is not None:
                events.append(event)
        self.assertEqual(walked(one, weaving), (scene, tuple(events)))
        self.assertEqual(events, [(1, 3), (0, 3)])

    def test_to_where_all_are_done(self):
        one = one_room({"d": (("tell", 6),)}, [(DO, ("say", 3))] * 2)
        scene, events = walked(one, (0, 1, 0, 0, 1, 1, 1, 0))
        self.assertEqual(scene, ((((), -1, (), (), ()),), (), (), (((), (own(2),)),) * 2))
        self.assertEqual(events, ((1, 3), (0, 3)))
        self.assertEqual(may_step(one, scene), [])

    def test_told_again(self):
        one = one_room({"d": (("tell", 6),)}, [(DO, ("say", 3))] * 2)
        self.assertEqual(walked(one, (0, 1, 0)), walked(one, (0, 1, 0)))
        scene = begun(one)
        self.assertEqual(stepped(one, scene, 1), stepped(one, scene, 1))
        self.assertEqual(scene, begun(one))

    def test_worlds_beyond_the_bounds(self):
        rows = (("give", "p"), ("take", "p")) * 30 + (("go", 61),)
        one = world([rows] * 6, [room("r" + letter, {"d": (("tell", 0),)}) for letter in "abcdef"], (("p", 0),))
        self.assertEqual(may_step(one, begun(one)), [0, 1, 2, 3, 4, 5])
        scene = walked(one, (5,) * 61)[0]
        self.assertEqual(stands(one, scene, 5), ("done",))


if __name__ == "__main__":
    unittest.main()
