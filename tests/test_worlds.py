"""Points [5], [6] and [7], and [2] for them."""

import string
import unittest

from calledroom.worlds import is_world
from tests.helper import changed, odd_things, part_at, paths_of, room, world

LEAST = world([(("go", 0),)])

FULL = (
    (
        (
            "hall", "when free", (("gong", 0), ("more", 9)), (("full", "turns"), ("gong", "row")),
            (
                (
                    "enter",
                    (
                        ("put", "more", ("plus", "given", ("waits", "gong"))),
                        ("unless", ("less", "gong", "more"), 9),
                        ("go", 2),
                        ("do", "gong", "tower", "look", ("both", "given", ("waits", "full"))),
                        ("do", None, "hall", "exit", 0),
                        ("wait", "full", ("minus", "given", "more")),
                        ("call", "gong"),
                        ("all", "full"),
                        ("tell", ("same", "gong", ("not", "given"))),
                    ),
                ),
                ("exit", (("tell", 1),)),
            ),
        ),
        ("shed", "at once", (), (), (("attic", (("do", None, "hall", "exit", "given"),)),)),
        ("tower", "at once", (("more", 3),), (("more", "row"),), (("look", (("wait", "more", "more"),)),)),
    ),
    (("door", 0), ("gong", 9)),
    (("more", 4), ("other", 0)),
    (
        (
            (("mine", 2), ("yours", 3)),
            (
                ("put", "mine", ("plus", "yours", "other")),
                ("put", "more", 9),
                ("unless", "mine", 12),
                ("go", 0),
                ("do", "mine", "hall", "enter", ("minus", "more", "mine")),
                ("do", "other", "tower", "look", 3),
                ("do", None, "shed", "attic", 0),
                ("take", "door"),
                ("give", "gong"),
                ("pass", "door", "gong"),
                ("pass", "door", "door"),
                ("say", ("not", "more")),
            ),
        ),
        ((("mine", 0),), (("say", "mine"),)),
        ((), (("say", 0),)),
    ),
)


def deed_world(program, manner="when free"):
    """A world in which this is a deed of the room b, between others."""
    one = room("a", {"da": (("tell", 0),), "db": (("tell", 0),)}, things=(("ta", 0),), bells=(("ba", "row"),))
    two = room("b", {"da": (("tell", 1),), "dx": program}, manner, (("tb", 0), ("u", 1)), (("bb", "row"), ("v", "turns")))
    return ((one, two), (("pa", 0), ("pb", 0)), (("oa", 0), ("ob", 1)), (((("ha", 0), ("hb", 1)), (("say", 0),)),))


def hand_world(program):
    """A world in which this is the program of one of two hands."""
    rooms, passes, shared, hands = deed_world((("tell", 0),))
    return (rooms, passes, shared, hands + (((("hc", 0), ("hd", 1)), program),))


def words(many):
    """So many rising words."""
    return ["w" + letter for letter in string.ascii_lowercase[:many]]


def chain(leads):
    """A world of rooms and deeds by what each of them does: a dict from (room, deed) to such pairs."""
    rooms = {}
    for (name, deed), goals in leads.items():
        rows = tuple([("do", None, goal[0], goal[1], 0) for goal in goals])
        rooms.setdefault(name, {})[deed] = rows or (("tell", 0),)
    return world([(("say", 0),)], [room(name, rooms[name]) for name in sorted(rooms)])


class Looks(unittest.TestCase):
    def yes(self, *things):
        for thing in things:
            with self.subTest(thing=thing):
                self.assertIs(is_world(thing), True)

    def no(self, *things):
        for at, thing in enumerate(things):
            with self.subTest(at=at):
                self.assertIs(is_world(thing), False)


class Whole(Looks):
    def test_worlds(self):
        self.yes(LEAST, FULL, deed_world((("tell", 0),)), hand_world((("say", 0),)))

    def test_asked_again(self):
        self.assertEqual([is_world(FULL), is_world(FULL)], [True, True])

    def test_anything_else(self):
        self.no(*odd_things())
        self.no(0, 1, "a", list(FULL), FULL[:3], FULL + ((),), (FULL,), [FULL])

    def test_odd_things_anywhere(self):
        # None, whole numbers and the empty tuple may stand somewhere; tests below hold them elsewhere.
        odds = [odd for odd in odd_things() if odd is not None and not isinstance(odd, int)]
        odds = [odd for odd in odds if not isinstance(odd, tuple) or len(odd) > 0]
        for path in paths_of(FULL):
            for odd in odds:
                with self.subTest(path=path):
                    self.assertIs(is_world(changed(FULL, path, odd)), False)

    def test_lists_for_tuples(self):
        for path in paths_of(FULL):
            part = part_at(FULL, path)
            if isinstance(part, tuple):
                self.no(changed(FULL, path, list(part)))

    def test_truths_for_numbers(self):
        for path in paths_of(FULL):
            if isinstance(part_at(FULL, path), int):
                self.no(changed(FULL, path, True), changed(FULL, path, False))

    def test_a_part_too_many_or_too_few(self):
        for path in paths_of(FULL):
            part = part_at(FULL, path)
            if isinstance(part, tuple) and part and isinstance(part[0], str):
                self.no(changed(FULL, path, part[:-1]), changed(FULL, path, part + (0,)))
                self.no(changed(FULL, path, part + (part[-1],)), changed(FULL, path, part[1:]))

    def test_things_handed_in_stay(self):
        thing = [list(part) for part in FULL]
        is_world(thing)
        self.assertEqual(thing, [list(part) for part in FULL])


class Bounds(Looks):
    def test_rows_of_a_program(self):
        for many, good in ((0, False), (1, True), (2, True), (39, True), (40, True), (41, False)):
            self.assertIs(is_world(hand_world((("go", 0),) * many)), good)
            self.assertIs(is_world(deed_world((("go", 0),) * many)), good)

    def test_places(self):
        for k, good in ((-1, False), (0, True), (1, True), (2, True), (3, True), (4, False), (40, False)):
            for row in (("go", k), ("unless", 0, k)):
                for rows in ((row, ("go", 0), ("go", 0)), (("go", 0), ("go", 0), row)):
                    self.assertIs(is_world(hand_world(rows)), good)
                    self.assertIs(is_world(deed_world(rows)), good)
        full = (("go", 0),) * 39
        self.yes(hand_world((("go", 40),) + full))
        self.no(hand_world((("go", 41),) + full))

    def test_rooms(self):
        for many in range(7):
            rooms = [room(name, {"d": (("tell", 0),)}) for name in words(many)]
            self.assertIs(is_world(world([(("say", 0),)], rooms)), many <= 4)

    def test_parts_of_rooms(self):
        for many in range(7):
            things = [(word, 1) for word in words(many)]
            bells = [(word, "row") for word in words(many)]
            deeds = {word: (("tell", 0),) for word in words(many)}
            deed = {"d": (("tell", 0),)}
            for manner in ("at once", "when free"):
                for one, good in (
                    (room("r", deed, manner, things=things), many <= 4),
                    (room("r", deed, manner, bells=bells), many <= 3),
                    (room("r", deeds, manner), 1 <= many <= 4),
                ):
                    self.assertIs(is_world(world([(("say", 0),)], [one])), good)

    def test_passes_and_open_things(self):
        for many in (0, 1, 15, 16, 17, 20):
            rows = tuple([(word, 9) for word in words(many)])
            self.assertIs(is_world(world([(("say", 0),)], passes=rows)), many <= 16)
            self.assertIs(is_world(world([(("say", 0),)], shared=rows)), many <= 16)

    def test_hands(self):
        for many in range(7):
            self.assertIs(is_world(world([(("say", 0),)] * many)), 1 <= many <= 4)

    def test_own_things(self):
        for many in (0, 1, 7, 8, 9, 10):
            hand = (tuple([(word, 0) for word in words(many)]), (("say", 0),))
            self.assertIs(is_world(((), (), (), (hand,))), many <= 8)
            self.assertIs(is_world(((), (), (), (hand, hand))), many <= 8)

    def test_values(self):
        for value in (-1, 0, 9, 10):
            good = 0 <= value <= 9
            one = room("r", {"d": (("tell", 0),)}, things=(("t", value),))
            self.assertIs(is_world(world([(("say", 0),)], [one])), good)
            self.assertIs(is_world(world([(("say", 0),)], passes=(("p", value),))), good)
            self.assertIs(is_world(world([(("say", 0),)], shared=(("o", value),))), good)
            self.assertIs(is_world(((), (), (), (((("o", value),), (("say", 0),)),))), good)

    def test_words(self):
        for word, good in (
            ("a", True), ("abcdefgh", True), ("abcdefghi", False), ("", False), ("A", False), ("a1", False),
            ("a b", False), (1, False), (None, False), (("a",), False),
        ):
            deed = (("d", (("tell", 0),)),)
            for thing in (
                world([(("say", 0),)], [(word, "at once", (), (), deed)]),
                world([(("say", 0),)], [("r", "at once", ((word, 0),), (), deed)]),
                world([(("say", 0),)], [("r", "at once", (), ((word, "row"),), deed)]),
                world([(("say", 0),)], [("r", "at once", (), (), ((word, (("tell", 0),)),))]),
                world([(("say", 0),)], passes=((word, 0),)),
                world([(("say", 0),)], shared=((word, 0),)),
                ((), (), (), ((((word, 0),), (("say", 0),)),)),
            ):
                self.assertIs(is_world(thing), good)

    def test_depth_of_sums(self):
        five = ("not", ("not", ("not", ("not", 1))))
        for tree, good in ((five, True), (("not", five), False), (("plus", 1, five), False)):
            for row in (("put", "tb", tree), ("unless", tree, 0), ("do", None, "a", "da", tree), ("wait", "bb", tree), ("tell", tree)):
                self.assertIs(is_world(deed_world((row,))), good)
            for row in (("put", "hc", tree), ("unless", tree, 0), ("do", None, "a", "da", tree), ("say", tree)):
                self.assertIs(is_world(hand_world((row,))), good)

    def test_manners_and_sorts(self):
        for manner, good in (("at once", True), ("when free", True), ("at-once", False), ("", False), (None, False), (("at once",), False)):
            self.assertIs(is_world(deed_world((("tell", 0),), manner)), good)
        for sort, good in (("row", True), ("turns", True), ("turn", False), ("", False), (None, False), (0, False)):
            self.assertIs(is_world(world([(("say", 0),)], [room("r", {"d": (("tell", 0),)}, bells=(("b", sort),))])), good)


class Forms(Looks):
    BOTH = (("unless", 0, 0), ("go", 0), ("do", None, "a", "da", 0))
    DEEDS = (("wait", "bb", 0), ("call", "bb"), ("all", "v"), ("tell", 3), ("put", "tb", 0), ("do", "u", "a", "db", 0))
    HANDS = (
        ("take", "pa"), ("give", "pb"), ("pass", "pa", "pb"), ("pass", "pb", "pb"), ("say", 9), ("put", "hc", 0),
        ("put", "oa", 0), ("do", "hd", "b", "da", 0), ("do", "ob", "b", "dx", 0),
    )

    def test_rows_where_they_may_stand(self):
        for row in self.BOTH + self.DEEDS:
            self.yes(deed_world((row,)), deed_world((("tell", 0), row)))
        for row in self.BOTH + self.HANDS:
            self.yes(hand_world((row,)), hand_world((("say", 0), row)))

    def test_rows_of_the_other_sort(self):
        for row in self.DEEDS:
            self.no(hand_world((row,)), hand_world((("say", 0), row)))
        for row in self.HANDS:
            self.no(deed_world((row,)), deed_world((("tell", 0), row)))
        # The same words within reach don't make a row one of the other sort.
        self.no(hand_world((("wait", "hc", 0),)), hand_world((("call", "hc"),)), hand_world((("tell", 0),)))
        self.no(deed_world((("say", 0),)), deed_world((("take", "bb"),)), deed_world((("give", "tb"),)))

    def test_parts_too_few_or_too_many(self):
        for rows, around in ((self.BOTH + self.DEEDS, deed_world), (self.BOTH + self.HANDS, hand_world)):
            for row in rows:
                self.no(around((row[:-1],)), around((row + (row[-1],),)), around((row[1:],)), around((list(row),)))

    def test_no_rows(self):
        for row in ((), ("halt",), ("Put", "tb", 0), "go", 0, None, ("go",), ("",), ((), 0), (None, 0), ("given", 0)):
            self.no(deed_world((row,)), hand_world((row,)))

    def test_parts_of_another_kind(self):
        for odd in odd_things():
            for row in (
                ("put", odd, 0), ("put", "tb", odd), ("unless", odd, 0), ("do", None, odd, "da", 0), ("do", None, "a", odd, 0),
                ("do", None, "a", "da", odd), ("wait", odd, 0), ("wait", "bb", odd), ("call", odd), ("all", odd), ("tell", odd),
            ):
                self.no(deed_world((row,)))
            for row in (("take", odd), ("give", odd), ("pass", odd, "pa"), ("pass", "pa", odd), ("say", odd), ("put", odd, 0)):
                self.no(hand_world((row,)))
            for row in (("go", odd), ("unless", 0, odd)):
                self.no(deed_world((row,)), hand_world((row,)))
            if odd is not None:
                self.no(deed_world((("do", odd, "a", "da", 0),)), hand_world((("do", odd, "a", "da", 0),)))

    def test_all_stands_when_free_alone(self):
        row = ("all", "bb")
        self.yes(deed_world((row,), "when free"))
        self.no(deed_world((row,), "at once"), deed_world((("go", 2), row), "at once"))
        self.yes(deed_world((("call", "bb"), ("wait", "bb", 0)), "at once"))


class Named(Looks):
    def test_things_of_deeds(self):
        self.yes(deed_world((("put", "tb", 0),)), deed_world((("do", "u", "a", "da", 0),)))
        for word in ("ta", "ba", "bb", "oa", "ha", "pa", "x", "given", "b", "dx", "tbb"):
            self.no(deed_world((("put", word, 0),)), deed_world((("do", word, "a", "da", 0),)))

    def test_things_of_hands(self):
        for word in ("hc", "hd", "oa", "ob"):
            self.yes(hand_world((("put", word, 0),)), hand_world((("do", word, "a", "da", 0),)), hand_world((("say", word),)))
        for word in ("ha", "ta", "tb", "ba", "pa", "a", "x", "given"):
            self.no(hand_world((("put", word, 0),)), hand_world((("do", word, "a", "da", 0),)), hand_world((("say", word),)))

    def test_sums_of_deeds(self):
        def rows(tree):
            return (("put", "tb", tree), ("unless", tree, 0), ("do", None, "a", "da", tree), ("wait", "bb", tree), ("tell", tree))

        for tree in ("tb", "u", "given", ("waits", "bb"), ("waits", "v"), ("plus", "u", ("not", ("waits", "v")))):
            for row in rows(tree):
                self.yes(deed_world((row,)))
        for word in ("ta", "oa", "ha", "pa", "x", "bb", "a", "da"):
            for tree in (word, ("plus", "tb", word), ("not", ("not", word))):
                for row in rows(tree):
                    self.no(deed_world((row,)))
        for word in ("ba", "tb", "given", "x", "pa", "b"):
            for tree in (("waits", word), ("less", "tb", ("not", ("waits", word)))):
                for row in rows(tree):
                    self.no(deed_world((row,)))

    def test_sums_of_hands(self):
        def rows(tree):
            return (("put", "hc", tree), ("unless", tree, 0), ("do", None, "a", "da", tree), ("say", tree))

        for row in rows(("plus", "hc", ("minus", "ob", "hd"))):
            self.yes(hand_world((row,)))
        for tree in ("given", ("not", "given"), ("waits", "ba"), ("waits", "bb"), ("waits", "hc"), ("plus", 1, ("waits", "oa")), "pa"):
            for row in rows(tree):
                self.no(hand_world((row,)))

    def test_a_thing_called_as_a_bell(self):
        rows = (("put", "x", ("waits", "x")), ("wait", "x", "x"))
        one = room("r", {"d": rows}, things=(("x", 0),), bells=(("x", "row"),))
        self.yes(world([(("say", 0),)], [one]))
        self.no(world([(("say", 0),)], [room("r", {"d": rows}, things=(("x", 0),))]))
        self.no(world([(("say", 0),)], [room("r", {"d": rows}, bells=(("x", "row"),))]))

    def test_rooms_and_deeds(self):
        for name, deed, good in (
            ("a", "da", True), ("a", "db", True), ("b", "da", True), ("b", "db", False), ("a", "dx", False),
            ("c", "da", False), ("da", "a", False), ("pa", "da", False), ("a", "ta", False), ("", "da", False),
        ):
            self.assertIs(is_world(hand_world((("do", None, name, deed, 0),))), good)
            self.assertIs(is_world(deed_world((("do", None, name, deed, 0),))), good)

    def test_bells(self):
        for bell, good in (("bb", True), ("v", True), ("ba", False), ("tb", False), ("x", False), ("given", False)):
            for row in (("wait", bell, 0), ("call", bell), ("all", bell)):
                self.assertIs(is_world(deed_world((row,))), good)

    def test_passes(self):
        for name, good in (("pa", True), ("pb", True), ("pc", False), ("a", False), ("oa", False), ("hc", False)):
            for row in (("take", name), ("give", name), ("pass", name, "pa"), ("pass", "pa", name), ("pass", name, name)):
                self.assertIs(is_world(hand_world((row,))), good)

    def test_called_given(self):
        deed = {"d": (("tell", "given"),)}
        self.no(world([(("say", 0),)], [room("r", deed, things=(("given", 0),))]))
        self.no(world([(("say", 0),)], shared=(("given", 0),)))
        self.no(((), (), (), (((("given", 0),), (("say", 0),)),)))
        # Only things are never called so.
        self.yes(world([(("take", "given"),)], passes=(("given", 0),)))
        one = room("given", {"given": (("wait", "given", ("waits", "given")),)}, bells=(("given", "row"),))
        self.yes(world([(("do", None, "given", "given", 0),)], [one]))

    def test_words_that_may_be_alike(self):
        one = room("x", {"x": (("put", "x", "x"),), "y": (("wait", "x", "x"),)}, things=(("x", 0),), bells=(("x", "row"),))
        other = room("y", {"x": (("put", "x", "x"),)}, things=(("x", 0),), bells=(("x", "row"),))
        hand = ((("x", 0),), (("do", "x", "x", "x", "x"),))
        self.yes(((one, other), (), (), (hand, hand)))
        self.yes(((one, other), (("p", 0),), (("x", 0),), (((), (("put", "x", "x"),)),)))
        self.yes(((), (("x", 0),), (("x", 0),), (((), (("put", "x", "x"),)),)))
        self.yes(((), (("x", 0),), (), (hand[:1] + ((("take", "x"),),),)))

    def test_words_that_may_not(self):
        deed = {"d": (("tell", 0),)}
        self.no(world([(("say", 0),)], [room("x", deed)], (("x", 0),)))
        self.no(world([(("say", 0),)], [room("w", deed), room("x", deed)], (("v", 0), ("x", 0))))
        hand = ((("x", 0),), (("say", 0),))
        other = ((("y", 0),), (("say", 0),))
        self.no(((), (), (("x", 0),), (hand,)), ((), (), (("x", 0),), (other, hand)), ((), (), (("w", 0), ("y", 0)), (hand, other)))


class Rising(Looks):
    def test_tuples_that_do_not_rise(self):
        for path in ((0,), (1,), (2,), (0, 0, 2), (0, 0, 3), (0, 0, 4), (3, 0, 0)):
            part = part_at(FULL, path)
            self.assertGreaterEqual(len(part), 2)
            self.no(changed(FULL, path, (part[1], part[0]) + part[2:]))
            self.no(changed(FULL, path, part[::-1]))

    def test_words_twice(self):
        for path in ((0,), (1,), (2,), (0, 0, 2), (0, 0, 3), (0, 0, 4), (3, 0, 0)):
            part = part_at(FULL, path)
            self.no(changed(FULL, path, part[:1] + part))

    def test_words_twice_with_rising_values(self):
        deed = {"d": (("tell", 0),)}
        self.no(world([(("say", 0),)], passes=(("p", 0), ("p", 1))), world([(("say", 0),)], shared=(("p", 0), ("p", 1))))
        self.no(world([(("say", 0),)], [room("r", deed, things=(("p", 0), ("p", 1)))]))
        self.no(world([(("say", 0),)], [room("r", deed, bells=(("p", "row"), ("p", "turns")))]))
        self.no(world([(("say", 0),)], [room("r", deed, "at once"), room("r", deed, "when free")]))
        self.no(world([(("say", 0),)], [("r", "at once", (), (), (("d", (("tell", 0),)), ("d", (("tell", 1),))))]))
        self.no(((), (), (), (((("p", 0), ("p", 1)), (("say", 0),)),)))

    def test_falling_values_of_rising_words(self):
        self.yes(world([(("say", 0),)], passes=(("a", 9), ("b", 0)), shared=(("a", 9), ("ab", 5), ("b", 0))))

    def test_hands_need_not_rise(self):
        self.yes(world([(("say", 1),), (("say", 0),), (("say", 1),)]))


class Rings(Looks):
    def test_deeds_that_come_to_themselves(self):
        self.no(chain({("a", "d"): [("a", "d")]}))
        self.no(chain({("a", "d"): [("a", "e")], ("a", "e"): [("a", "d")]}))
        self.no(chain({("a", "d"): [("b", "d")], ("b", "d"): [("a", "d")]}))
        self.no(chain({("a", "d"): [("b", "d")], ("b", "d"): [("c", "d")], ("c", "d"): [("d", "d")], ("d", "d"): [("a", "d")]}))
        self.no(chain({("a", "d"): [("b", "d")], ("b", "d"): [("b", "e"), ("c", "d")], ("b", "e"): [], ("c", "d"): [("b", "d")]}))

    def test_rows_that_are_never_come_to(self):
        self.no(deed_world((("go", 2), ("do", None, "b", "dx", 0))))
        self.no(deed_world((("tell", 0), ("go", 0), ("do", None, "b", "dx", 0))))
        self.no(deed_world((("unless", 0, 2), ("do", "tb", "b", "dx", 0))))

    def test_deeds_that_do_not(self):
        self.yes(deed_world((("do", None, "b", "da", 0),)))
        self.yes(deed_world((("do", None, "b", "da", 0),), "at once"))
        self.yes(chain({("a", "d"): [("b", "d")], ("b", "d"): [("a", "e")], ("a", "e"): []}))
        self.yes(chain({("a", "d"): [("b", "d"), ("c", "d"), ("b", "d")], ("b", "d"): [("c", "d")], ("c", "d"): []}))
        self.yes(chain({("a", "d"): [("a", "e"), ("a", "f")], ("a", "e"): [("a", "g")], ("a", "f"): [("a", "g")], ("a", "g"): []}))

    def test_many_ways_through_sixteen_deeds(self):
        deeds = [(name, deed) for name in "abcd" for deed in "abcd"]
        leads = {deed: (deeds[at + 1:] * 40)[:40] for at, deed in enumerate(deeds)}
        self.yes(chain(leads))
        leads[deeds[15]] = [deeds[15]]
        self.no(chain(leads))
        leads[deeds[15]] = [deeds[0]]
        self.no(chain(leads))

    def test_like_deeds_of_unlike_rooms(self):
        self.yes(chain({("a", "d"): [("b", "d")], ("b", "d"): [("c", "d")], ("c", "d"): []}))


if __name__ == "__main__":
    unittest.main()
