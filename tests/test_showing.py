"""Point [23]'s show_world, and [2] for it."""

import copy
import unittest

from calledroom.manners import exchanged
from calledroom.ofpasses import of_passes
from calledroom.ofrooms import of_rooms
from calledroom.showing import show_world
from calledroom.worlds import is_world
from tests.helper import room, roomy_world, thrown_world, world
from tests.talking import thrown_talk
from tests.test_ofpasses import chain


class Showing(unittest.TestCase):
    def shown(self, one, *rows):
        self.assertTrue(is_world(one))
        before = copy.deepcopy(one)
        self.assertEqual(show_world(one), "\n".join(rows))
        self.assertEqual(show_world(one), "\n".join(rows))
        self.assertEqual(one, before)

    def test_a_hand_alone(self):
        self.shown(world([(("say", 1),)]), "hand", "say 1")
        self.shown(world([(("say", 1),)] * 3), "hand", "say 1", "hand", "say 1", "hand", "say 1")

    def test_a_hand_with_things(self):
        one = ((), (), (), (((("a", 3), ("bcdefghi", 9)), (("put", "a", "bcdefghi"),)),))
        self.shown(one, "hand", "thing a 3", "thing bcdefghi 9", "put a bcdefghi")

    def test_passes_and_open_things(self):
        one = world([(("say", "o"),)], (), (("p", 0), ("q", 9)), (("o", 2), ("u", 0)))
        self.shown(one, "pass p 0", "pass q 9", "open o 2", "open u 0", "hand", "say o")
        self.shown(world([(("say", 0),)], (), (("p", 0),)), "pass p 0", "hand", "say 0")
        self.shown(world([(("say", 0),)], (), (), (("o", 2),)), "open o 2", "hand", "say 0")

    def test_rooms(self):
        rooms = [
            room("a", {"d": (("tell", 0),)}, "at once"),
            room("b", {"d": (("tell", 0),), "e": (("tell", 1), ("tell", 2))}, "when free", (("t", 1), ("u", 2)), (("x", "row"), ("y", "turns"))),
            room("c", {"d": (("tell", 0),)}, "when free", (("t", 1),)),
            room("d", {"d": (("tell", 0),)}, "at once", (), (("x", "turns"),)),
        ]
        self.shown(
            world([(("say", 1),)], rooms),
            "room a at-once", "deed d", "tell 0",
            "room b when-free", "thing t 1", "thing u 2", "bell x row", "bell y turns", "deed d", "tell 0", "deed e", "tell 1", "tell 2",
            "room c when-free", "thing t 1", "deed d", "tell 0",
            "room d at-once", "bell x turns", "deed d", "tell 0",
            "hand", "say 1",
        )

    def test_rows_of_deeds(self):
        rows = (
            ("put", "t", "given"), ("unless", ("waits", "x"), 0), ("go", 12), ("do", "t", "s", "f", "t"), ("do", None, "s", "f", 3),
            ("wait", "x", ("plus", "t", 1)), ("call", "x"), ("all", "x"), ("tell", ("not", "t")), ("go", 10), ("unless", 0, 9), ("tell", 1),
        )
        rooms = [room("r", {"d": rows}, "when free", (("t", 0),), (("x", "row"),)), room("s", {"f": (("tell", 0),)})]
        self.shown(
            world([(("say", 1),)], rooms), "room r when-free", "thing t 0", "bell x row", "deed d", "put t given", "unless 0 ? x",
            "go 12", "do t s f t", "do - s f 3", "wait x + t 1", "call x", "all x", "tell ! t", "go 10", "unless 9 0", "tell 1",
            "room s when-free", "deed f", "tell 0", "hand", "say 1",
        )

    def test_rows_of_hands(self):
        rows = (
            ("put", "m", ("minus", "o", 1)), ("unless", ("same", "m", "o"), 10), ("go", 0), ("do", "m", "r", "d", "o"),
            ("do", None, "r", "d", ("less", "m", 2)), ("take", "p"), ("give", "q"), ("pass", "p", "q"), ("pass", "p", "p"), ("say", ("both", "m", 0)),
        )
        one = ((room("r", {"d": (("tell", 0),)}),), (("p", 1), ("q", 0)), (("o", 5),), (((("m", 0),), rows),))
        self.shown(
            one, "pass p 1", "pass q 0", "open o 5", "room r when-free", "deed d", "tell 0", "hand", "thing m 0", "put m - o 1",
            "unless 10 = m o", "go 0", "do m r d o", "do - r d < m 2", "take p", "give q", "pass p q", "pass p p", "say & m 0",
        )

    def test_sums(self):
        deep = ("plus", ("minus", ("less", ("same", 1, "t"), 2), 3), ("both", ("not", ("not", ("waits", "x"))), "given"))
        rooms = [room("r", {"d": (("tell", deep), ("put", "t", deep))}, "at once", (("t", 0),), (("x", "row"),))]
        text = "+ - < = 1 t 2 3 & ! ! ? x given"
        self.shown(world([(("say", 1),)], rooms), "room r at-once", "thing t 0", "bell x row", "deed d", "tell " + text, "put t " + text, "hand", "say 1")


class BeyondTheBounds(unittest.TestCase):
    def test_told_worlds(self):
        for seed in range(30):
            for one in (of_passes(roomy_world(seed)), exchanged(thrown_talk(seed), 0), of_rooms(thrown_talk(seed)), thrown_world(seed)):
                rows = show_world(one).split("\n")
                many = sum([len(program) for things, program in one[3]])
                many += sum([1 + len(things) for things, program in one[3]]) + len(one[1]) + len(one[2])
                for name, manner, things, bells, deeds in one[0]:
                    many += 1 + len(things) + len(bells) + sum([1 + len(program) for deed, program in deeds])
                self.assertEqual(len(rows), many)

    def test_many_rooms(self):
        names = "abcdefghij"
        one = of_rooms(world([tuple([("take", name) for name in names])], (), [(name, 1) for name in names]))
        self.assertEqual([row for row in show_world(one).split("\n") if row.startswith("room")], [f"room {name} at-once" for name in names])

    def test_numbers_of_many_rows(self):
        one = of_passes(chain(39))
        rows = show_world(one).split("\n")
        numbers = [int(row.split(" ")[1]) for row in rows if row.split(" ")[0] in ("go", "unless")]
        told = [row[-1] for things, program in one[3] for row in program if row[0] in ("go", "unless")]
        self.assertEqual(numbers, told)
        self.assertGreater(max(numbers), 1000)


if __name__ == "__main__":
    unittest.main()
