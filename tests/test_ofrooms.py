"""Point [22]'s of_rooms, and [3](e) and (f) and [2] for it."""

import copy
import unittest

from calledroom.errors import NoRooms, RoomError
from calledroom.heldlooks import shows_alike
from calledroom.holding import held
from calledroom.ofrooms import of_rooms
from calledroom.scenes import begun
from calledroom.steps import may_step, stepped
from calledroom.worlds import is_world
from tests.helper import Dice, keeps_forms, room, thrown_sum, world
from tests.talking import thrown_talk

TAKE, GIVE = ("take", "p"), ("give", "p")


def says(*values):
    return tuple([("say", value) for value in values])


def passing(*programs, value=0, shared=(), rooms=()):
    """A world of hands with one pass."""
    return world(programs, rooms, (("p", value),), shared)


def thrown_passing(seed, hands, many):
    """A world by number of so many hands that take, give and say, and that go over all of these."""
    dice = Dice(seed + 900)
    passes = [(name, dice.one_of((0, 1, 9))) for name in ("p", "q")]
    programs = []
    for hand in range(hands):
        rows = []
        for at in range(many):
            name = dice.one_of(("p", "p", "q"))
            rows.append(dice.one_of((
                ("take", name), ("give", name), ("take", name), ("give", name), ("say", dice.throw(2)), ("say", "o"),
                ("put", "o", dice.throw(2)), ("unless", thrown_sum(dice, ("o",), ()), dice.throw(many + 1)),
            )))
        programs.append(tuple(rows))
    return world(programs, (), passes, (("o", dice.throw(2)),))


class Made(unittest.TestCase):
    def made(self, one, most=100000):
        """What of_rooms tells, held against the words of [22]."""
        self.assertTrue(is_world(one))
        before = copy.deepcopy(one)
        told = of_rooms(one)
        self.assertEqual(one, before)
        self.assertEqual(of_rooms(one), told)
        self.assertTrue(keeps_forms(told))
        self.assertEqual(told[1:3], ((), one[2]))
        self.assertEqual(len(told[3]), len(one[3]))
        for (things, program), (new_things, new_program) in zip(one[3], told[3]):
            self.assertLessEqual(set(things), set(new_things))
            rows = [row for row in program if row[0] not in ("take", "give")]
            self.assertEqual([row for row in new_program if row in rows], rows)
        self.assertLessEqual(set(one[0]), set(told[0]))
        for place in set(told[0]) - set(one[0]):
            self.assertLessEqual({sort for bell, sort in place[3]}, {"row"})
        self.assertTrue(is_world(told) or len(told[0]) > 4)
        sort, pairs = held(one, told, most)
        self.assertEqual(sort, "alike")
        if len(pairs) < 100:
            self.assertTrue(shows_alike(one, told, pairs))
        return told


class Alike(Made):
    def test_no_pass(self):
        one = world([says(1, 2)], shared=(("o", 3),))
        self.assertEqual(self.made(one), one)
        for seed in range(20):
            talk = thrown_talk(seed)
            hands = [(things, tuple([row for row in program if row[0] not in ("take", "give", "unless", "go")])) for things, program in talk[3]]
            if all([program for things, program in hands]):
                without = (talk[0], (), talk[2], tuple(hands))
                self.assertEqual(self.made(without), without)

    def test_one_pass_by_its_value(self):
        for value in (0, 1, 9):
            for rows in ((TAKE,), (GIVE,), (TAKE, TAKE), (GIVE, TAKE), (TAKE, GIVE, TAKE)):
                with self.subTest(value=value, rows=rows):
                    self.made(passing(rows + says(1), value=value))
                    self.made(passing(says(1) + rows, value=value))
                    self.made(passing(rows + says(1), rows + says(2), value=value))

    def test_a_pass_given_at_nine(self):
        for gives in range(3):
            for value in (7, 8, 9):
                takes = (TAKE, ("say", 0)) * 11
                self.made(passing((GIVE,) * gives + takes, value=value))

    def test_several_in_the_row(self):
        for hands in (2, 3):
            takers = [(("say", 0), TAKE, ("say", 1))] * hands
            for gives in range(1, hands + 2):
                self.made(passing(*takers, (GIVE,) * gives))

    def test_order_in_the_row(self):
        takers = [(TAKE, ("say", 1))] * 3
        one = passing(*takers, (GIVE, ("say", 0), GIVE, ("say", 0), GIVE))
        told = self.made(one)
        for order in ((0, 1, 2), (2, 0, 1), (1, 2, 0), (2, 1, 0)):
            scene = begun(told)
            for hand in order:
                while hand in may_step(told, scene):
                    scene = stepped(told, scene, hand)[0]
            found = []
            while may_step(told, scene):
                # All that can be done without the giver is done first.
                scene, event = stepped(told, scene, may_step(told, scene)[0])
                if event is not None and event[0] != 3:
                    found.append(event[0])
            self.assertEqual(tuple(found), order)

    def test_a_hand_that_takes_what_it_gave(self):
        for value in (0, 1, 8, 9):
            self.made(passing((GIVE, TAKE) + says(1) + (GIVE, GIVE, TAKE, TAKE) + says(2), value=value))
        self.made(passing((GIVE, TAKE) + says(1), (TAKE,) + says(2)))
        self.made(passing((GIVE, TAKE) + says(1), (GIVE, TAKE) + says(2), (TAKE,)))

    def test_take_first_and_last(self):
        for value in (0, 1):
            self.made(passing((TAKE,), value=value))
            self.made(passing((TAKE,), (TAKE,), value=value))
            self.made(passing((TAKE, ("say", 1)), (("say", 2), GIVE), value=value))
            self.made(passing((("say", 1), TAKE), (("say", 2), GIVE), value=value))
            self.made(passing((TAKE, ("say", 1), TAKE), (GIVE, ("say", 2), GIVE), value=value))

    def test_rows_over_takes_and_gives(self):
        rows = (("say", 0), TAKE, ("say", 1), GIVE, TAKE)
        for target in range(len(rows) + 2):
            for ahead in range(len(rows) + 1):
                for jump in (("go", target), ("unless", "o", target)):
                    program = rows[:ahead] + (jump,) + rows[ahead:]
                    for first in (0, 1):
                        self.made(passing(program, (("put", "o", 1),), value=1, shared=(("o", first),)))

    def test_more_than_one_pass(self):
        for values in ((0, 0), (1, 0), (9, 1)):
            for programs in (
                (((("take", "p"), ("take", "q")) + says(1)), (("give", "q"), ("give", "p"))),
                (((("take", "p"), ("take", "q"), ("give", "p")) + says(1)), ((("take", "q"), ("take", "p"), ("give", "q")) + says(2))),
            ):
                self.made(world(programs, (), tuple(zip(("p", "q"), values))))
        names = "abcdefghijklmnop"
        rows = tuple([("take", name) for name in names]) + says(1) + tuple([("give", name) for name in names])
        self.assertEqual(len(self.made(world([rows], (), [(name, 1) for name in names]))[0]), 16)

    def test_passes_that_nobody_takes(self):
        self.made(world([says(1)], (), (("p", 0), ("q", 9))))
        self.made(world([(("give", "q"),) + says(1), says(2)], (), (("p", 0), ("q", 9))))

    def test_hands(self):
        for hands in (1, 2, 3, 4):
            for value in (0, 1, 2):
                self.made(passing(*[(TAKE, ("say", 0), GIVE)] * hands, value=value))

    def test_rooms_ahead_and_open_things(self):
        deeds = {"d": (("wait", "x", "given"), ("tell", "t")), "e": (("put", "t", ("plus", "t", 1)), ("call", "x"))}
        for manner in ("at once", "when free"):
            for name in ("a", "z"):
                place = room(name, deeds, manner, (("t", 0),), (("x", "turns"),))
                hands = (
                    ((("m", 0),), (("do", "m", name, "d", 0), TAKE, ("say", "m"))),
                    ((), (GIVE, ("do", "o", name, "e", "o"), ("say", "o"))),
                )
                told = self.made(((place,), (("p", 0),), (("o", 2),), hands))
                self.assertTrue(is_world(told))
                self.assertIn(place, told[0])

    def test_words_that_are_taken_already(self):
        words = ("p", "left", "some", "take", "give", "room", "pass", "given", "value", "bell", "row", "abcdefgh")
        for name in words:
            for other in words:
                things = ((other if other != "given" else "x", 1),)
                rooms = [room(other, {"give": (("tell", 1),), "take": (("wait", other, 0),)}, "at once", things, ((other, "row"),))]
                if name == other:
                    rooms = []
                hands = (((), (("take", name), ("say", things[0][0]), ("give", name), ("take", name), ("say", 2))), (things, (("give", name),)))
                self.made((tuple(rooms), ((name, 1),), (), (((things[0],), hands[0][1]), hands[1])))
                self.made((tuple(rooms), ((name, 1),), things, (hands[0], ((), hands[1][1]))))

    def test_at_most_four_rooms(self):
        for many in range(4):
            rooms = [room(name, {"d": (("tell", 0),)}) for name in "abc"[:many]]
            passes = [(name, 0) for name in "wxyz"[:4 - many]]
            rows = tuple([("give", name) for name, value in passes]) + says(1) + tuple([("take", name) for name, value in passes])
            self.assertTrue(is_world(self.made(world([rows, says(2)], rooms, passes))))
        rows = tuple([GIVE, TAKE]) * 20
        self.assertTrue(is_world(self.made(passing(rows))))

    def test_many_events(self):
        one = passing((("say", 0), TAKE, ("say", 1), GIVE, ("go", 0)), (("say", 2), TAKE, ("say", 3), GIVE, ("go", 0)), value=1)
        self.made(one)
        programs = [(TAKE,) + says(0, 1, 2, 3, 4, 5) + (GIVE,) + says(6, 7)] * 3
        self.made(passing(*programs, value=2))
        self.made(passing(*[says(0, 1) + (TAKE,) + says(2) + (GIVE,) + says(3)] * 3, value=1))

    def test_worlds_by_number(self):
        for hands, many, seeds in ((1, 8, 40), (2, 5, 60), (3, 4, 30), (4, 3, 12)):
            for seed in range(seeds):
                with self.subTest(hands=hands, seed=seed):
                    self.made(thrown_passing(seed, hands, many))
        for seed in range(150):
            self.made(thrown_talk(seed))


class NoSuchRooms(unittest.TestCase):
    def refused(self, one):
        self.assertTrue(is_world(one))
        with self.assertRaises(NoRooms) as caught:
            of_rooms(one)
        self.assertIsInstance(caught.exception, RoomError)

    def test_wherever_a_pass_row_stands(self):
        row = ("pass", "p", "p")
        for rows in ((row,), (TAKE, row), (row, GIVE), (("go", 2), row), (("go", 0), row), (("unless", 1, 0), TAKE, row)):
            self.refused(passing(rows))
            self.refused(passing(says(1), rows))
            self.refused(passing(rows, says(1), (TAKE,)))
        self.refused(world([says(1) * 39 + (("pass", "p", "q"),)], (), (("p", 1), ("q", 0))))

    def test_a_pass_or_a_deed_called_pass(self):
        one = world([(("take", "pass"), ("do", None, "a", "pass", 0))], [room("a", {"pass": (("tell", 0),)})], (("pass", 1),))
        self.assertTrue(is_world(of_rooms(one)))


if __name__ == "__main__":
    unittest.main()
