"""Point [21]'s exchanged, and [3](e) and (f) and [2] for it."""

import copy
import unittest

from calledroom.errors import NoManner, RoomError
from calledroom.heldlooks import shows_alike, shows_parts
from calledroom.holding import held
from calledroom.manners import exchanged
from calledroom.worlds import is_world
from tests.helper import Dice, room, roomy_world, thrown_world, world
from tests.talking import thrown_talk

OTHER = {"at once": "when free", "when free": "at once"}
IDLE = {"d": (("tell", 0),)}
BELL = (("x", "row"),)


def rooms_of(*manners):
    """A world with as many rooms as there are manners, each of another name."""
    rooms = [room(name, IDLE, manner, (("t", 1),), BELL) for name, manner in zip("abcd", manners)]
    return world([(("do", None, "a", "d", 0), ("say", 1))], rooms, (("p", 1),), (("o", 2),))


class Exchanged(unittest.TestCase):
    def test_one_room(self):
        for manner, other in OTHER.items():
            self.assertEqual(exchanged(rooms_of(manner), 0), rooms_of(other))

    def test_the_first_the_last_and_one_between(self):
        for manners in (("at once", "when free", "at once"), ("when free",) * 4, ("at once",) * 4):
            for at in range(len(manners)):
                others = manners[:at] + (OTHER[manners[at]],) + manners[at + 1:]
                self.assertEqual(exchanged(rooms_of(*manners), at), rooms_of(*others))

    def test_twice_is_the_same_again(self):
        for seed in range(40):
            one = thrown_talk(seed)
            self.assertNotEqual(exchanged(one, 0), one)
            self.assertEqual(exchanged(exchanged(one, 0), 0), one)

    def test_a_world_is_told_and_nothing_is_changed(self):
        for seed in range(40):
            one = thrown_talk(seed)
            before = copy.deepcopy(one)
            told = exchanged(one, 0)
            self.assertTrue(is_world(told))
            self.assertEqual(one, before)
            self.assertEqual(told[1:], one[1:])
            self.assertEqual(told[0][0][:1] + told[0][0][2:], one[0][0][:1] + one[0][0][2:])
            self.assertEqual(exchanged(one, 0), told)


class NoOtherManner(unittest.TestCase):
    ALL = ("all", "x")

    def with_deeds(self, deeds):
        """A world of three rooms, the one between with these deeds."""
        rooms = [room(name, deeds if name == "b" else IDLE, "when free", (), BELL) for name in "abc"]
        one = world([(("say", 0),)], rooms)
        self.assertTrue(is_world(one))
        return one

    def test_wherever_all_stands(self):
        tells = (("tell", 0), ("tell", 1))
        for program in ((self.ALL,), (self.ALL,) + tells, tells + (self.ALL,), (("go", 2), self.ALL), (("unless", 1, 0), self.ALL)):
            for deeds in ({"d": program}, dict(IDLE, e=program), dict(IDLE, a=program), dict(IDLE, a=tells, e=tells, f=program)):
                one = self.with_deeds(deeds)
                with self.assertRaises(NoManner) as caught:
                    exchanged(one, 1)
                self.assertIsInstance(caught.exception, RoomError)

    def test_all_in_another_room_refuses_nothing(self):
        one = self.with_deeds({"d": (self.ALL,)})
        for at in (0, 2):
            self.assertEqual(exchanged(one, at)[0][at][1], "at once")
            self.assertTrue(is_world(exchanged(one, at)))

    def test_a_deed_called_all(self):
        one = self.with_deeds({"all": (("call", "x"),)})
        self.assertEqual(exchanged(one, 1)[0][1][1], "at once")

    def test_worlds_by_number(self):
        refused = 0
        for seed in range(60):
            one = thrown_world(seed)
            for at in (0, 1):
                rows = [row for deed, program in one[0][at][4] for row in program]
                if "all" in [row[0] for row in rows]:
                    refused += 1
                    self.assertRaises(NoManner, exchanged, one, at)
                else:
                    self.assertTrue(is_world(exchanged(one, at)))
        self.assertGreater(refused, 10)


UNLESS_CALLED = ("unless", ("not", "f"), 4)
WAIT = ("wait", "x", 0)


def woken(deed, manner, ahead=(), behind=()):
    """A hand does this deed of a room, in which another one puts f, calls it, then puts t."""
    deeds = {"d": deed, "e": (("put", "f", 1), ("call", "x"), ("put", "t", 1))}
    rooms = (room("r", deeds, manner, (("f", 0), ("t", 0)), BELL),)
    waiter = ((("m", 0),), ahead + (("do", "m", "r", "d", 0),) + behind)
    return (rooms, (), (), (waiter, ((), (("do", None, "r", "e", 0),))))


def thrown_woken(seed):
    """Such a world by number."""
    dice = Dice(seed)
    deed = [WAIT] + [dice.one_of((WAIT, ("tell", "t"), ("unless", "t", 4), ("put", "t", 0), ("go", 4))) for row in range(3)]
    return woken(tuple(deed), dice.one_of(("at once", "when free")), (), (("say", "m"),))


class HeldAgainstTheOther(unittest.TestCase):
    def told(self, one, at=0):
        self.assertTrue(is_world(one))
        other = exchanged(one, at)
        told = held(one, other, 3000)
        if told[0] == "parts":
            self.assertTrue(shows_parts(one, other, told[1], told[2]))
        else:
            self.assertEqual(told[0], "alike")
            self.assertTrue(shows_alike(one, other, told[1]))
        return told

    def test_alike(self):
        for manner in OTHER:
            for deed in ((WAIT, ("tell", 1)), (("unless", ("not", "f"), 2), WAIT, ("tell", "f"))):
                self.assertEqual(self.told(woken(deed, manner, (("say", 3),), (("say", "m"),)))[0], "alike")
            self.assertEqual(self.told(rooms_of(manner))[0], "alike")

    def parted(self, deed, behind, what):
        for manner in OTHER:
            self.assertEqual(self.told(woken(deed, manner, (), behind)), ("parts", (), what))
            said = (("say", 1), ("say", 2))
            self.assertEqual(self.told(woken(deed, manner, said, behind)), ("parts", ((0, 1), (0, 2)), what))

    def test_parts_by_an_event(self):
        # Who is called at once sees t ahead of the put, else behind it.
        deed = (("unless", ("not", "f"), 3), WAIT, ("tell", "t"))
        self.parted(deed, (("say", "m"),), (0, 1))

    def test_parts_by_done(self):
        self.parted((UNLESS_CALLED, WAIT, ("unless", "t", 5), ("go", 3), ("go", 4)), (), "done")

    def test_parts_by_stuck(self):
        self.parted((UNLESS_CALLED, WAIT, ("unless", "t", 4), WAIT, ("go", 4)), (), "stuck")

    def test_worlds_by_number(self):
        sorts = []
        for one in [thrown_talk(seed) for seed in range(60)] + [thrown_woken(seed) for seed in range(150)]:
            sorts.append(self.told(one)[0])
        for seed in range(60):
            one = roomy_world(seed)
            for at, place in enumerate(one[0]):
                if "all" not in [row[0] for deed, program in place[4] for row in program]:
                    sorts.append(self.told(one, at)[0])
        self.assertGreater(sorts.count("alike"), 50)
        self.assertGreater(sorts.count("parts"), 10)


if __name__ == "__main__":
    unittest.main()
