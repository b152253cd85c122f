"""Points [8], [9] and [10], and [2] for them."""

import unittest

from calledroom.scenes import begun, stands
from tests.helper import own, room, world

YARD = room(
    "yard", {"enter": (("wait", "low", 0), ("tell", 1)), "leave": (("call", "low"),)},
    "at once", (("count", 3), ("limit", 7)), (("high", "turns"), ("low", "row")),
)
SHED = room("shed", {"dig": (("do", None, "yard", "enter", 0),), "rest": (("tell", 2),)}, bells=(("low", "row"),))
GATE = (("do", None, "shed", "dig", 1), ("take", "gate"), ("say", 0))
WORLD = (
    (SHED, YARD), (("door", 0), ("gate", 4)), (("mark", 5), ("sign", 6)),
    (((("mine", 8),), GATE), ((), GATE[1:]), ((("mine", 1), ("our", 2)), GATE[2:])),
)


def scene(shed=None, yard=None, passes=None, frames=None):
    """A scene of WORLD in which all is as at first but what is told; a room told without its values."""
    rooms = (
        ((),) + (shed or (-1, (), (), ((),))),
        ((3, 7),) + (yard or (-1, (), (), ((), ()))),
    )
    lasts = frames or {}
    hands = tuple([
        (values, lasts.get(hand, (own(0),))) for hand, values in enumerate(((8,), (), (1, 2)))
    ])
    return (rooms, passes or ((0, ()), (4, ())), (5, 6), hands)


class Begun(unittest.TestCase):
    def test_all_kinds(self):
        self.assertEqual(begun(WORLD), (
            (((), -1, (), (), ((),)), ((3, 7), -1, (), (), ((), ()))),
            ((0, ()), (4, ())),
            (5, 6),
            (((8,), ((-1, -1, 0, 0, 0),)), ((), ((-1, -1, 0, 0, 0),)), ((1, 2), ((-1, -1, 0, 0, 0),))),
        ))
        self.assertEqual(begun(WORLD), scene())

    def test_no_rooms_passes_or_open_things(self):
        self.assertEqual(begun(world([(("go", 0),)])), ((), (), (), (((), (own(0),)),)))

    def test_one_kind_alone(self):
        hands = [(("say", 0),)] * 2
        behind = (((), (own(0),)), ((), (own(0),)))
        one = room("r", {"d": (("tell", 0),)})
        self.assertEqual(begun(world(hands, [one])), ((((), -1, (), (), ()),), (), (), behind))
        self.assertEqual(begun(world(hands, passes=(("p", 9),))), ((), ((9, ()),), (), behind))
        self.assertEqual(begun(world(hands, shared=(("o", 9),))), ((), (), (9,), behind))

    def test_told_again(self):
        self.assertEqual(begun(WORLD), begun(WORLD))

    def test_worlds_beyond_the_bounds(self):
        many = world([(("say", 0),) * 50] * 6, passes=[("p" + letter, 1) for letter in "abcdefghijklmnopqrst"])
        self.assertEqual(begun(many), ((), ((1, ()),) * 20, (), (((), (own(0),)),) * 6))


class Stands(unittest.TestCase):
    def told(self, place, *where, hand=0):
        self.assertEqual(stands(WORLD, where[0], hand), place)

    def test_out(self):
        for hand in range(3):
            self.told(("out",), scene(), hand=hand)
        self.told(("out",), scene(frames={0: (own(2),)}))

    def test_done(self):
        after = scene(frames={0: (own(3),), 1: (own(2),), 2: (own(1),)})
        for hand in range(3):
            self.told(("done",), after, hand=hand)
        self.told(("out",), scene(frames={0: (own(2),), 2: (own(1),)}))

    def test_pass(self):
        for row in ((0,), (0, 1), (1, 0), (2, 1, 0)):
            self.told(("pass", "door"), scene(passes=((0, row), (4, ())), frames={0: (own(2),)}))
            self.told(("pass", "gate"), scene(passes=((3, ()), (0, row)), frames={0: (own(2),)}))
        self.told(("out",), scene(passes=((0, (1, 2)), (0, ())), frames={0: (own(2),)}))

    def test_in_a_pass_row_behind_its_last_row(self):
        waiting = scene(passes=((0, ()), (0, (1,))), frames={1: (own(2),)})
        self.told(("pass", "gate"), waiting, hand=1)

    def test_row(self):
        frames = {0: (own(1), (0, 0, 0, 1, 0))}
        for row in ((0,), (0, 1), (1, 0)):
            self.told(("row", "shed"), scene(shed=(2, row, (), ((),)), frames=frames))

    def test_row_while_within_another_room(self):
        frames = {0: (own(1), (0, 0, 1, 1, 0), (1, 0, 0, 0, 0))}
        self.told(("row", "yard"), scene((0, (), (), ((),)), (1, (0,), (), ((), ())), frames=frames))

    def test_row_of_a_room_that_it_is_within(self):
        frames = {0: (own(1), (0, 0, 1, 1, 0), (0, 1, 0, 0, 0))}
        self.told(("row", "shed"), scene((0, (0,), (), ((),)), frames=frames))

    def test_late(self):
        frames = {0: (own(1), (1, 1, 1, 0, 0))}
        for late in ((0,), (0, 2), (2, 0)):
            self.told(("late", "yard"), scene(yard=(1, (), late, ((), ())), frames=frames))

    def test_bell(self):
        frames = {0: (own(1), (1, 0, 1, 0, 0))}
        for line in (((0, 0),), ((0, 0), (0, 1)), ((0, 2), (0, 1), (0, 0))):
            self.told(("bell", "yard", "low"), scene(yard=(-1, (), (), ((), line)), frames=frames))
        for line in (((1, 0),), ((5, 0), (7, 1)), ((0, 2), (2, 1), (9, 0))):
            self.told(("bell", "yard", "high"), scene(yard=(-1, (), (), (line, ())), frames=frames))

    def test_bell_of_one_room_among_like_bells(self):
        frames = {0: (own(1), (0, 1, 1, 0, 0))}
        self.told(("bell", "shed", "low"), scene(shed=(-1, (), (), (((0, 0),),)), frames=frames))

    def test_turns_are_no_hands(self):
        frames = {0: (own(1), (1, 0, 1, 0, 0)), 1: (own(1), (1, 0, 1, 0, 0))}
        called = scene(yard=(2, (), (), (((0, 1),), ())), frames=frames)
        self.told(("called", "yard"), called)
        self.told(("bell", "yard", "high"), called, hand=1)

    def test_bell_while_within_another_room(self):
        frames = {0: (own(1), (0, 0, 1, 1, 0), (1, 0, 1, 0, 0))}
        self.told(("bell", "yard", "low"), scene((0, (), (), ((),)), (-1, (), (), ((), ((0, 0),))), frames=frames))

    def test_within(self):
        self.told(("within", "shed"), scene((0, (1,), (), ((),)), frames={0: (own(1), (0, 0, 0, 1, 0))}))
        frames = {0: (own(1), (0, 0, 1, 1, 0), (1, 0, 2, 0, 1))}
        self.told(("within", "yard"), scene((0, (), (), ((),)), (0, (), (), ((), ())), frames=frames))

    def test_within_behind_the_last_row_of_a_deed(self):
        self.told(("within", "shed"), scene((0, (), (), ((),)), frames={0: (own(3), (0, 0, 1, 1, 0))}))

    def test_called(self):
        frames = {0: (own(1), (0, 1, 1, 0, 0))}
        for within in (-1, 1, 2):
            self.told(("called", "shed"), scene((within, (), (), ((),)), frames=frames))

    def test_called_while_within_another_room(self):
        frames = {0: (own(1), (0, 0, 1, 1, 0), (1, 0, 1, 0, 0))}
        self.told(("called", "yard"), scene((0, (), (), ((),)), (2, (), (), ((), ())), frames=frames))


if __name__ == "__main__":
    unittest.main()
