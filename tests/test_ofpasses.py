"""Point [22]'s of_passes, and [3](e) and (f) and [2] for it."""

import copy
import unittest

from calledroom.books import book
from calledroom.errors import NoPasses, NoRooms, RoomError
from calledroom.heldlooks import shows_alike
from calledroom.holding import held
from calledroom.ofpasses import made_of_passes, of_passes
from calledroom.ofrooms import of_rooms
from calledroom.stuckness import stuck_way
from calledroom.worlds import is_world
from tests.helper import keeps_forms, room, roomy_world, world
from tests.test_ofrooms import thrown_passing

MANNERS = ("at once", "when free")
BELLS = (("x", "row"), ("y", "row"))
COUNT = ("put", "t", ("plus", "t", 1))
NEXT = (COUNT, ("tell", "t"))


def doers(rooms, *programs, passes=(), things=(("m", 0),)):
    """A world of hands with things of their own, each told by its program."""
    return (tuple(rooms), tuple(passes), (), tuple([(tuple(things), tuple(program)) for program in programs]))


def doing(*deeds, name="r", given=0):
    """Rows of a hand that does these deeds one behind another and says what each tells."""
    rows = []
    for deed in deeds:
        rows += [("do", "m", name, deed, given), ("say", "m")]
    return tuple(rows)


class Made(unittest.TestCase):
    def made(self, one, most=200000):
        """What of_passes tells, held against the words of [22]."""
        self.assertTrue(is_world(one))
        before = copy.deepcopy(one)
        told = of_passes(one)
        self.assertEqual(one, before)
        self.assertEqual(of_passes(one), told)
        self.fits(one, told, most)
        # Deeds' rows may stand but once in a program, too, as they must where there are too many.
        if len(one[3]) < 3:
            self.fits(one, made_of_passes(one, 0), most)
        return told

    def fits(self, one, told, most):
        self.assertTrue(keeps_forms(told))
        self.assertEqual(told[0], ())
        self.assertLessEqual(set(one[1]), set(told[1]))
        self.assertEqual(len(told[3]), len(one[3]))
        for (things, program), (new_things, new_program) in zip(one[3], told[3]):
            self.assertLessEqual(set(things), set(new_things))
        fresh = [at for at, (name, value) in enumerate(told[1]) if (name, value) not in one[1]]
        for scene in book(told, most)[1]:
            self.assertLessEqual({scene[1][at][0] for at in fresh}, {0, 1})
        sort, *rest = held(one, told, most)
        self.assertEqual(sort, "alike", rest)
        if len(rest[0]) < 50:
            self.assertTrue(shows_alike(one, told, rest[0]))

    def each_manner(self, deeds, *programs, things=(("t", 0),), bells=BELLS):
        """The world of one room held so with either manner."""
        for manner in MANNERS:
            with self.subTest(manner=manner):
                self.made(doers([room("r", deeds, manner, things, bells)], *programs))


class Rooms(Made):
    def test_without_rooms(self):
        for seed in range(20):
            one = thrown_passing(seed, 2, 5)
            one = (one[0], one[1], (), tuple([((("o", 1),), program) for things, program in one[3]]))
            self.assertEqual(self.made(one), one)

    def test_one_room(self):
        self.each_manner({"d": NEXT}, doing("d"))
        self.each_manner({"d": NEXT}, doing("d", "d"), doing("d"))
        self.each_manner({"d": NEXT}, doing("d"), doing("d"), doing("d"), doing("d"), bells=())

    def test_a_room_that_nobody_enters(self):
        self.each_manner({"d": NEXT}, (("say", 1),), (("say", 2),))

    def test_several_rooms_of_mixed_manners(self):
        for first in MANNERS:
            for second in MANNERS:
                rooms = [
                    room("a", {"d": NEXT, "w": (("wait", "x", 0),) + NEXT, "c": (("call", "x"),) + NEXT}, first, (("t", 1),), BELLS),
                    room("b", {"d": NEXT, "e": (("tell", 7),)}, second, (("t", 5),)),
                ]
                self.made(doers(rooms, doing("d", name="a") + doing("d", name="b"), doing("d", "e", name="b"), doing("d", name="a")))
                self.made(doers(rooms, doing("w", name="a") + doing("d", name="b"), doing("e", name="b") + doing("c", name="a")))

    def test_deeds_of_other_rooms_in_deeds(self):
        for first in MANNERS:
            for second in MANNERS:
                outer = {"d": (("do", "t", "b", "d", ("plus", "given", 1)), ("tell", "t")), "n": (("do", None, "b", "d", 3), COUNT)}
                inner = {"d": (("put", "t", ("plus", "t", "given")), ("do", "t", "c", "d", "t"), ("tell", "t"))}
                last = {"d": (("tell", ("minus", "given", 1)),)}
                rooms = [room("a", outer, first, (("t", 0),)), room("b", inner, second, (("t", 2),)), room("c", last, first)]
                self.made(doers(rooms, doing("d", name="a", given="m"), doing("d", name="b")))
                self.made(doers(rooms, doing("n", name="a"), doing("d", name="a"), doing("d", name="c", given=4)))

    def test_rooms_in_a_ring(self):
        for first in MANNERS:
            for second in MANNERS:
                rooms = [
                    room("a", {"d": (("do", None, "b", "e", 0),), "e": (("tell", 1),)}, first),
                    room("b", {"d": (("do", None, "a", "e", 0),), "e": (("tell", 1),)}, second),
                ]
                one = doers(rooms, doing("d", name="a"), doing("d", name="b"))
                self.assertEqual(stuck_way(one, 1000)[0], "way")
                self.made(one)

    def test_a_deed_of_a_room_that_the_hand_is_within(self):
        # The hand stands in the row for ever, and nobody comes in any more.
        self.each_manner({"d": (COUNT, ("do", "t", "r", "e", 0), ("tell", 3)), "e": NEXT}, doing("d"), doing("e", "e"))
        for manner in MANNERS:
            rooms = [
                room("a", {"d": (("do", None, "b", "d", 0),), "e": (("tell", 1),)}, manner),
                room("b", {"d": (("do", None, "a", "e", 0),)}, manner),
            ]
            self.made(doers(rooms, doing("d", name="a"), doing("e", name="a")))

    def test_unless_and_go_in_deeds(self):
        rows = (("unless", "given", 3), COUNT, ("go", 5), ("put", "t", 7), ("tell", "t"))
        for given in (0, 1):
            self.each_manner({"d": rows}, doing("d", "d", given=given), doing("d"))
        for target in range(6):
            self.each_manner({"d": (COUNT, ("tell", "t"), ("unless", ("less", "t", 3), 5), ("unless", ("same", "t", 4), target), COUNT)}, doing("d"))
        self.each_manner({"d": (("go", 1),), "e": (("unless", 0, 1),), "f": (("go", 0),)}, doing("d", "e"), doing("e", "f"))


class Bells(Made):
    DEEDS = {
        "a": (("all", "x"),) + NEXT,
        "c": (("call", "x"),) + NEXT,
        "n": NEXT,
        "w": (("wait", "x", 3),) + NEXT,
    }
    CALLS = {deed: rows for deed, rows in DEEDS.items() if deed != "a"}

    def test_nobody_one_and_several_wait(self):
        self.each_manner(self.CALLS, doing("c"))
        self.each_manner(self.CALLS, doing("w"))
        self.each_manner(self.CALLS, doing("w"), doing("c"))
        self.each_manner(self.CALLS, doing("w"), doing("c"), doing("n"))
        self.each_manner(self.CALLS, doing("w"), doing("w"), doing("c", "c"))
        self.each_manner(self.CALLS, doing("w"), doing("w"), doing("c"), doing("c"))
        self.each_manner(self.CALLS, doing("w"), doing("w"), doing("w"), doing("c", "c"))

    def test_several_bells(self):
        deeds = {"c": (("call", "y"), ("call", "x")) + NEXT, "w": (("wait", "x", 0),) + NEXT, "v": (("wait", "y", 0),) + NEXT}
        self.each_manner(deeds, doing("w"), doing("v"), doing("c"))
        self.each_manner(deeds, doing("v"), doing("w"), doing("c", "c"))
        both = {"w": (("wait", "x", 0), COUNT, ("wait", "y", 0), ("tell", "t")), "c": (("call", "x"), COUNT, ("call", "y"), ("tell", "t"))}
        self.each_manner(both, doing("w"), doing("c", "c"), doing("c"))
        self.each_manner(both, doing("w"), doing("w"), doing("c", "c"))

    def test_a_called_one_calls_and_waits_again(self):
        deeds = {
            "c": (("call", "x"), COUNT, ("call", "y"), ("tell", "t")),
            "v": (("wait", "y", 0), COUNT, ("tell", "t")),
            "w": (("wait", "x", 0), COUNT, ("call", "y"), COUNT, ("wait", "x", 0), ("tell", "t")),
        }
        self.each_manner(deeds, doing("w"), doing("v"), doing("c"))
        self.each_manner(deeds, doing("w"), doing("v"), doing("c"), doing("c"))

    def test_late_ones_come_in_ahead_of_the_row_and_in_order(self):
        deeds = {
            "c": (("call", "x"),) + NEXT,
            "v": (("wait", "y", 0),) + NEXT,
            "w": (("wait", "x", 0), ("call", "y")) + NEXT,
        }
        one = doers([room("r", deeds, "at once", (("t", 0),), BELLS)], doing("w"), doing("v"), doing("c"), doing("c"))
        lates = [len(scene[0][0][3]) for scene in book(one, 5000)[1]]
        self.assertEqual(max(lates), 2)
        self.assertTrue([scene for scene in book(one, 5000)[1] if scene[0][0][3] and scene[0][0][2]])
        self.made(one)

    def test_waiting_hands_the_room_to_late_ones(self):
        deeds = {"c": (("call", "x"),) + NEXT, "w": (("wait", "x", 0), COUNT, ("wait", "y", 0), ("tell", "t")), "y": (("call", "y"),) + NEXT}
        self.each_manner(deeds, doing("w"), doing("c", "y"), doing("y"))

    def test_all(self):
        for hands in (1, 2, 3, 4):
            programs = [doing("w")] * (hands - 1) + [doing("a", "c")]
            self.made(doers([room("r", self.DEEDS, "when free", (("t", 0),), BELLS)], *programs))
        self.made(doers([room("r", self.DEEDS, "when free", (("t", 0),), BELLS)], doing("w", "w"), doing("a", "a"), doing("a")))
        self.made(doers([room("r", self.DEEDS, "when free", (("t", 0),), BELLS)], doing("w"), doing("w"), doing("a", "n")))

    def test_bells_of_rooms_within_rooms(self):
        for first in MANNERS:
            for second in MANNERS:
                outer = {"d": (("do", "t", "b", "w", 2), ("tell", "t")), "n": NEXT}
                rooms = [room("a", outer, first, (("t", 0),)), room("b", self.CALLS, second, (("t", 4),), BELLS)]
                self.made(doers(rooms, doing("d", name="a"), doing("n", name="a"), doing("c", "c", name="b")))

    def test_waits_in_sums(self):
        some, other = ("waits", "x"), ("waits", "y")
        trees = (
            some, ("not", some), ("both", some, other), ("both", some, some), ("plus", some, some), ("same", some, other),
            ("minus", 3, ("plus", some, "given")), ("less", some, ("plus", other, 1)), ("not", ("both", ("not", some), ("not", other))),
        )
        for tree in trees:
            deeds = {
                "s": (("tell", tree), ("unless", tree, 3), COUNT, ("call", "x"), ("do", "t", "z", "d", tree)),
                "v": (("wait", "y", 0),),
                "w": (("wait", "x", 0), ("put", "t", tree), ("tell", "t")),
            }
            for manner in MANNERS:
                rooms = [room("r", deeds, manner, (("t", 0),), BELLS), room("z", {"d": (("tell", "given"),)}, manner)]
                with self.subTest(tree=tree, manner=manner):
                    self.made(doers(rooms, doing("w"), doing("v"), doing("s", "s")))
                    self.made(doers(rooms, doing("w"), doing("w"), doing("s", given=1)))

    def test_sums_five_deep(self):
        some = ("waits", "x")
        tree = ("plus", 1, ("plus", 0, ("minus", ("plus", some, "given"), ("not", "t"))))
        deeper = ("plus", 1, ("plus", ("less", ("not", some), 0), ("minus", ("plus", some, "given"), ("not", "t"))))
        deeds = {
            "s": (("put", "t", tree), ("tell", deeper), ("unless", deeper, 0), ("call", "x")),
            "w": (("wait", "x", 0), ("tell", deeper)),
        }
        for given in (0, "m", ("plus", "m", ("not", ("not", ("same", "m", 0))))):
            self.each_manner(deeds, doing("w"), doing("s", "s", given=given))


class Values(Made):
    def test_tell(self):
        sometimes = (("unless", "t", 2), ("tell", 9), COUNT), (("unless", ("not", "t"), 2), ("tell", 9), COUNT)
        for rows in ((("tell", 4),), (COUNT,), (("tell", 1), ("tell", 2)), (("tell", 5), COUNT)) + sometimes:
            self.each_manner({"d": rows}, (("put", "m", 6), ("do", "m", "r", "d", 0), ("say", "m"), ("do", "m", "r", "d", 0), ("say", "m")))
            self.each_manner({"d": rows}, (("put", "m", 6), ("do", None, "r", "d", 0), ("say", "m")) * 2)

    def test_what_is_told_is_put_at_the_end_alone(self):
        # What is given is what it was when the deed was begun, though it is told to the same thing.
        for rows in ((("tell", ("plus", "given", 1)), ("put", "t", "given"), ("tell", "t")), (("put", "t", "given"),)):
            for given in ("m", ("plus", "m", 1), ("plus", "m", "n"), 3, "n"):
                program = (("do", "m", "r", "d", given), ("say", "m"), ("do", "n", "r", "d", given), ("say", "n"))
                for manner in MANNERS:
                    self.made(doers([room("r", {"d": rows}, manner, (("t", 1),))], program, things=(("m", 4), ("n", 2))))

    def test_given(self):
        tree = ("plus", "given", ("plus", ("minus", "given", 1), ("same", "given", 2)))
        for given in (0, 2, "m", ("plus", "m", 1), ("minus", ("plus", "m", ("less", "m", ("not", "m"))), 1)):
            self.each_manner({"d": (("put", "t", tree), ("tell", ("both", "given", "t")), ("unless", "given", 4), ("tell", tree))}, doing("d", "d", given=given))

    def test_given_handed_on_and_on(self):
        for given in ("m", ("plus", "m", 1), ("plus", ("plus", "m", 1), ("minus", "m", ("not", "m")))):
            tree = ("plus", "given", ("plus", "given", ("plus", "given", "given")))
            outer = {"d": (("do", "t", "b", "d", ("plus", "given", "t")), ("tell", ("plus", "t", "given")))}
            inner = {"d": (("do", "t", "c", "d", ("minus", "given", 1)), ("do", "u", "c", "d", ("plus", "u", "given")), ("tell", ("plus", "t", "u")))}
            rooms = [room("a", outer, "at once", (("t", 1),)), room("b", inner, "when free", (("t", 0), ("u", 1))), room("c", {"d": (("tell", tree),)})]
            self.made(doers(rooms, doing("d", "d", name="a", given=given), things=(("m", 2),)))

    def test_a_hand_without_things(self):
        one = world([(("do", None, "r", "d", 5), ("say", 1))] * 2, [room("r", {"d": NEXT}, "at once", (("t", 0),))])
        self.made(one)

    def test_hands_with_many_things(self):
        things = [(word, at) for at, word in enumerate("abcdefgh")]
        rows = tuple([("do", word, "r", "d", word) for word, value in things]) + tuple([("say", word) for word, value in things])
        self.made(doers([room("r", {"d": (("put", "t", "given"), ("tell", ("plus", "t", "given")))}, "at once", (("t", 0),))], rows, things=things))

    def test_words_that_are_taken_already(self):
        words = ("kept", "bell", "many", "late", "owed", "hand", "told", "back", "some", "kepta", "bella", "abcdefgh")
        deeds = {"c": (("call", "kept"), ("tell", "given")), "w": (("wait", "kept", 0), ("put", "bell", ("plus", "bell", "given")), ("tell", "bell"))}
        for word in ("bell", "hand", "kepta", "late", "abcdefgh"):
            place = room(word, deeds, "at once", (("bell", 3), ("kept", 1)), (("kept", "row"),))
            for other in words:
                thing = (("m", 1),)
                for passes, things in (((other, 1), thing), (("p", 1), ((other, 1),)), ((other, 1), ((other, 1),))):
                    if passes[0] != word:
                        self.made(doers([place], *self.takers(word, passes[0], things[0][0]), passes=(passes,), things=things))

    def takers(self, name, turnstile, thing):
        """The programs of two hands that use such a room, a pass and a thing of their own."""
        waiter = (("do", thing, name, "w", thing), ("say", thing), ("take", turnstile))
        return waiter, (("do", thing, name, "c", ("plus", thing, 1)), ("say", thing))


class Passes(Made):
    def test_passes_beside_rooms(self):
        deeds = {"c": (("call", "x"),) + NEXT, "w": (("wait", "x", 0),) + NEXT}
        for manner in MANNERS:
            rooms = [room("r", deeds, manner, (("t", 0),), BELLS)]
            for value in (0, 1, 9):
                passes = (("p", value), ("q", 0))
                first = (("take", "p"),) + doing("w") + (("give", "p"), ("give", "q"))
                second = doing("c") + (("pass", "p", "q"), ("say", 8))
                self.made(doers(rooms, first, second, passes=passes))
                self.made(doers(rooms, first, second, (("pass", "q", "p"), ("say", 9)), passes=passes))

    def test_a_pass_above_one_of_the_world(self):
        place = room("r", {"d": (("tell", 1),)}, "when free")
        told = self.made(doers([place], (("give", "p"),) * 3 + doing("d"), passes=(("p", 8),)))
        self.assertIn(("p", 8), told[1])


class ByNumber(Made):
    def test_worlds_by_number(self):
        for seed in range(200):
            with self.subTest(seed=seed):
                self.made(roomy_world(seed))

    def test_each_deed_once(self):
        for seed in range(1000, 1040):
            one = roomy_world(seed)
            with self.subTest(seed=seed):
                self.fits(one, made_of_passes(one, 0), 200000)

    def test_deeper_sums(self):
        for seed in range(40):
            with self.subTest(seed=seed):
                self.made(roomy_world(seed, 2, 5))

    def test_four_hands(self):
        for seed in (1, 3, 4, 6, 9, 13):
            with self.subTest(seed=seed):
                self.made(roomy_world(seed, 4))


class BothWays(Made):
    def test_rooms_of_passes_of_rooms(self):
        refused = 0
        for seed in range(60):
            one = roomy_world(seed)
            told = of_passes(one)
            if "pass" in [row[0] for things, program in told[3] for row in program]:
                refused += 1
                self.assertRaises(NoRooms, of_rooms, told)
            else:
                self.assertEqual(held(one, of_rooms(told), 200000)[0], "alike")
        self.assertGreater(refused, 5)
        self.assertLess(refused, 55)

    def test_passes_of_rooms_of_passes(self):
        for seed in range(40):
            one = thrown_passing(seed, 2, 4)
            if one[2]:
                self.assertRaises(NoPasses, of_passes, of_rooms(one))
            without = (one[0], one[1], (), tuple([((("o", 1),), program) for things, program in one[3]]))
            self.assertEqual(held(without, of_passes(of_rooms(without)), 200000)[0], "alike")


def chain(many):
    """A world of sixteen deeds, each of which does the next one many times but where nothing is given."""
    keys = [(name, deed) for name in "abcd" for deed in "efgh"]
    deeds = {name: {} for name in "abcd"}
    for (name, deed), (after, follower) in zip(keys, keys[1:]):
        rows = [("do", "t" if at % 2 else None, after, follower, ("minus", "given", 1)) for at in range(many)]
        deeds[name][deed] = (("unless", "given", many + 1),) + tuple(rows) + (("tell", ("plus", "t", "given")),) * (many < 39)
    deeds["d"]["h"] = (("tell", "given"),)
    rooms = [room(name, deeds[name], "when free", (("t", 1),)) for name in "abcd"]
    return doers(rooms, doing("e", "e", name="a", given=3), doing("e", name="b", given=1))


class ManyRows(unittest.TestCase):
    def test_deeds_done_often_within_one_another(self):
        for many in (1, 2, 3, 39):
            one = chain(many)
            self.assertTrue(is_world(one))
            told = of_passes(one)
            self.assertTrue(keeps_forms(told))
            self.assertLess(max([len(program) for things, program in told[3]]), 10000)
            if many < 3:
                self.assertEqual(held(one, told, 500000)[0], "alike")
            alone = one[:3] + (one[3][:1],)
            self.assertEqual(held(alone, of_passes(alone), 500000)[0], "alike")


class NoSuchPasses(unittest.TestCase):
    def refused(self, one):
        self.assertTrue(is_world(one))
        with self.assertRaises(NoPasses) as caught:
            of_passes(one)
        self.assertIsInstance(caught.exception, RoomError)

    def test_open_things(self):
        self.refused(world([(("say", 1),)], shared=(("o", 0),)))
        self.refused(world([(("say", 1),)], [room("r", {"d": (("tell", 0),)})], (("p", 1),), (("o", 0),)))
        self.refused(world([(("put", "o", 1),)], [room("r", {"d": (("tell", 0),)})], (), (("o", 0), ("q", 3))))

    def test_a_bell_of_turns(self):
        for bells in ((("x", "turns"),), (("x", "row"), ("y", "turns")), (("x", "turns"), ("y", "row"), ("z", "row"))):
            for at in range(3):
                rooms = [room(name, {"d": (("tell", 0),)}, "at once", (), bells if name == "abc"[at] else BELLS) for name in "abc"]
                self.refused(world([(("say", 1),)], rooms))
                self.refused(world([(("do", None, "a", "d", 0),)], rooms, (("p", 1),), (("o", 0),)))

    def test_words_alone_refuse_nothing(self):
        one = world([(("take", "turns"),)], [room("open", {"turns": (("wait", "turns", 0),)}, "at once", (), (("turns", "row"),))], (("turns", 1),))
        self.assertTrue(is_world(one))
        self.assertEqual(of_passes(one)[0], ())


if __name__ == "__main__":
    unittest.main()
