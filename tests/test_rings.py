"""Point [16]'s rings, and [3](d) and [2] for them."""

import itertools
import unittest

from calledroom.books import book
from calledroom.losing import lost
from calledroom.rings import holds, rings, shows_ring
from calledroom.scenes import begun, stands
from calledroom.steps import may_step, walked
from calledroom.worlds import is_world
from tests.helper import Dice, Odd, changed, odd_things, part_at, paths_of, room, world

MANNERS = ("at once", "when free")


def do(name, deed):
    return ("do", None, name, deed, 0)


def round_of(names, hands, manners=("when free",)):
    """A world of rooms whose deed d does deed e of the next one, and hands that do d each of its room."""
    rooms = []
    for at, name in enumerate(names):
        goal = names[(at + 1) % len(names)]
        rooms.append(room(name, {"d": (do(goal, "e"),), "e": (("tell", 0),)}, manners[at % len(manners)]))
    return world([(do(name, "d"),) for name in hands], sorted(rooms))


def thrown_round(seed):
    """A world by number of rooms whose deeds do one another's, so that there are many rings."""
    dice = Dice(seed)
    names = ("a", "b", "c")[:2 + dice.throw(2)]
    rooms = []
    for name in names:
        # Its own name once alone: else nearly all rings would be of one pair.
        goals = [goal for goal in names if goal != name] * 3 + [name]
        first = tuple([do(dice.one_of(goals), "e") for time in range(1 + dice.throw(2))])
        second = dice.one_of(((("tell", 0),), (("wait", "x", 0),), (("call", "x"),), (do(dice.one_of(goals), "f"),)))
        deeds = {"d": first, "e": second, "f": (dice.one_of((("call", "x"), ("tell", 0))),)}
        rooms.append(room(name, deeds, dice.one_of(MANNERS), (), (("x", "row"),)))
    hands = [(do(dice.one_of(names), dice.one_of(("d", "d", "d", "e"))),) for time in range(2 + dice.throw(2))]
    return world(hands, rooms)


def is_ring(one, scene, ring):
    """What [16] asks of pairs of a hand and a room's name, word by word."""
    hands = [hand for hand, name in ring]
    if not ring or hands[0] != min(hands) or len(set(hands)) != len(hands):
        return False
    for at, (hand, name) in enumerate(ring):
        following = hands[(at + 1) % len(hands)]
        state = [state for part, state in zip(one[0], scene[0]) if part[0] == name][0]
        if stands(one, scene, hand) != ("row", name) or state[1] != following:
            return False
    return True


def all_pairs(one):
    """All rows of pairs of a hand and a room's name in which no hand stands twice."""
    names = [part[0] for part in one[0]]
    for many in range(len(one[3]) + 1):
        for hands in itertools.permutations(range(len(one[3])), many):
            for rooms in itertools.product(names, repeat=many):
                yield tuple(zip(hands, rooms))


class Holds(unittest.TestCase):
    def test_none(self):
        one = round_of(("a", "b"), ("a", "b"))
        for hand in (0, 1):
            self.assertEqual(holds(one, begun(one), hand), ())
        self.assertEqual(holds(world([(("say", 0),)]), begun(world([(("say", 0),)])), 0), ())

    def test_one(self):
        one = round_of(("a", "b"), ("a", "b"))
        scene = walked(one, (1,))[0]
        self.assertEqual(holds(one, scene, 0), ())
        self.assertEqual(holds(one, scene, 1), ("b",))

    def test_several_rise_by_name(self):
        rooms = [
            room("a", {"d": (("tell", 0),)}), room("m", {"d": (do("a", "d"),)}), room("q", {"d": (do("z", "d"),)}),
            room("z", {"d": (do("m", "d"),)}, "at once"),
        ]
        one = world([(do("q", "d"),), (do("a", "d"),)], rooms)
        self.assertTrue(is_world(one))
        told = [holds(one, walked(one, (0,) * many)[0], 0) for many in range(10)]
        self.assertEqual(told, [
            (), ("q",), ("q", "z"), ("m", "q", "z"), ("a", "m", "q", "z"), ("a", "m", "q", "z"), ("m", "q", "z"),
            ("q", "z"), ("q",), (),
        ])
        self.assertEqual(holds(one, walked(one, (1, 0, 0, 0, 0))[0], 0), ("m", "q", "z"))
        self.assertEqual(holds(one, walked(one, (1, 0, 0, 0, 0))[0], 1), ("a",))

    def test_not_where_it_waits_or_is_late_or_called(self):
        for manner in MANNERS:
            deeds = {"d": (("wait", "x", 0),), "e": (("call", "x"),)}
            rooms = [room("a", deeds, manner, (), (("x", "row"),)), room("o", {"d": (do("a", "d"),)})]
            one = world([(do("o", "d"),), (do("a", "e"),)], rooms)
            self.assertEqual(holds(one, walked(one, (0, 0))[0], 0), ("a", "o"))
            self.assertEqual(holds(one, walked(one, (0, 0, 0))[0], 0), ("o",))
            called = walked(one, (0, 0, 0, 1, 1))[0]
            self.assertEqual(holds(one, called, 0), ("a", "o") if manner == "at once" else ("o",))
            self.assertEqual(holds(one, called, 1), () if manner == "at once" else ("a",))

    def test_not_where_it_stands_in_the_row(self):
        one = round_of(("a", "b"), ("a", "a"))
        self.assertEqual(holds(one, walked(one, (0, 1))[0], 1), ())


class Rings(unittest.TestCase):
    def told(self, one, weaving):
        self.assertTrue(is_world(one))
        return rings(one, walked(one, weaving)[0])

    def test_none(self):
        one = round_of(("a", "b"), ("a", "b"))
        for weaving in ((), (0,), (0, 0), (0, 1), (0, 1, 0), (0, 1, 1), (0, 0, 1)):
            self.assertEqual(self.told(one, weaving), ())
        self.assertEqual(self.told(world([(("say", 0),)]), ()), ())

    def test_one_alone(self):
        for manner in MANNERS:
            one = round_of(("a",), ("a",), (manner,))
            self.assertEqual(self.told(one, (0, 0)), (((0, "a"),),))
            self.assertEqual(self.told(one, (0,)), ())

    def test_one_alone_through_another_room(self):
        rooms = [
            room("a", {"d": (do("b", "d"),), "e": (("tell", 0),)}), room("b", {"d": (do("a", "e"),)}, "at once"),
        ]
        one = world([(do("a", "d"),)], rooms)
        self.assertEqual(self.told(one, (0, 0, 0)), (((0, "a"),),))

    def test_one_alone_behind_another_one(self):
        # Hand 1 stands in the room's row ahead of what hand 0 comes to do there once more.
        one = round_of(("a",), ("a", "a"))
        self.assertEqual(self.told(one, (0, 1, 0)), (((0, "a"),),))
        self.assertEqual(self.told(one, (1, 0, 1)), (((1, "a"),),))

    def test_hands_that_stand_for_a_ring_are_in_none(self):
        one = round_of(("a",), ("a",) * 4)
        self.assertEqual(self.told(one, (2, 2, 0, 1, 3)), (((2, "a"),),))
        one = round_of(("a", "b"), ("a", "a", "b", "b"))
        self.assertEqual(self.told(one, (1, 2, 0, 3, 1, 2)), (((1, "b"), (2, "a")),))
        self.assertEqual(self.told(one, (0, 3, 1, 2, 0, 3)), (((0, "b"), (3, "a")),))

    def test_two(self):
        for manners in itertools.product(MANNERS, repeat=2):
            one = round_of(("a", "b"), ("a", "b"), manners)
            for weaving in ((0, 1, 0, 1), (1, 0, 1, 0), (0, 1, 1, 0)):
                self.assertEqual(self.told(one, weaving), (((0, "b"), (1, "a")),))
            one = round_of(("a", "b"), ("b", "a"), manners)
            self.assertEqual(self.told(one, (0, 1, 0, 1)), (((0, "a"), (1, "b")),))

    def test_three_and_four_whoever_stands_where(self):
        for many in (3, 4):
            names = ("a", "b", "c", "d")[:many]
            for order in itertools.permutations(range(many)):
                one = round_of(names, [names[at] for at in order], MANNERS)
                # The hand that did room k's deed stands in the row of the next room.
                hands = [order.index(at) for at in range(many)]
                least = hands.index(0)
                ring = tuple([(hands[(least + k) % many], names[(least + k + 1) % many]) for k in range(many)])
                self.assertEqual(self.told(one, tuple(range(many)) * 2), (ring,))
                self.assertEqual(self.told(one, (tuple(range(many)) * 2)[:-1]), ())

    def test_two_in_one_scene(self):
        rooms = []
        for name, goal in (("a", "b"), ("b", "a"), ("c", "d"), ("d", "c")):
            rooms.append(room(name, {"d": (do(goal, "e"),), "e": (("tell", 0),)}))
        for order in itertools.permutations(("a", "b", "c", "d")):
            one = world([(do(name, "d"),) for name in order], rooms)
            told = self.told(one, (0, 1, 2, 3, 3, 2, 1, 0))
            self.assertEqual(len(told), 2)
            self.assertEqual(told, tuple(sorted(told)))
            self.assertEqual(told[0][0][0], 0)
            self.assertEqual(sorted([hand for ring in told for hand, name in ring]), [0, 1, 2, 3])
        one = world([(do("a", "d"),), (do("c", "d"),), (do("d", "d"),), (do("b", "d"),)], rooms)
        self.assertEqual(self.told(one, (0, 1, 2, 3, 3, 2, 1)), (((1, "d"), (2, "c")),))
        self.assertEqual(self.told(one, (0, 1, 2, 3, 3, 2, 1, 0)), (((0, "b"), (3, "a")), ((1, "d"), (2, "c"))))

    def test_rings_of_one_and_of_two(self):
        rooms = [
            room("a", {"d": (do("a", "e"),), "e": (("tell", 0),)}),
            room("b", {"d": (do("c", "e"),), "e": (("tell", 0),)}),
            room("c", {"d": (do("b", "e"),), "e": (("tell", 0),)}),
        ]
        one = world([(do("c", "d"),), (do("a", "d"),), (do("b", "d"),)], rooms)
        self.assertEqual(self.told(one, (0, 1, 2, 0, 1, 2)), (((0, "b"), (2, "c")), ((1, "a"),)))

    def test_late_ones_are_in_none(self):
        # Hand 0 holds b and is late at a; hand 1, within a, stands in b's row.
        rooms = [
            room("a", {"d": (("call", "x"),), "e": (("wait", "x", 0), do("b", "e"))}, "at once", (), (("x", "row"),)),
            room("b", {"d": (do("a", "d"),), "e": (("tell", 0),)}),
        ]
        one = world([(do("b", "d"),), (do("a", "e"),)], rooms)
        weaving = (1, 1, 0, 0, 0, 1)
        scene = walked(one, weaving)[0]
        self.assertEqual([stands(one, scene, hand) for hand in (0, 1)], [("late", "a"), ("row", "b")])
        self.assertEqual(self.told(one, weaving), ())

    def test_those_at_bells_are_in_none(self):
        rooms = [
            room("a", {"d": (("wait", "x", 0),), "e": (do("b", "e"),)}, "at once", (), (("x", "row"),)),
            room("b", {"d": (do("a", "d"),), "e": (("tell", 0),)}),
        ]
        one = world([(do("b", "d"),), (do("a", "e"),)], rooms)
        weaving = (0, 0, 0, 1, 1)
        scene = walked(one, weaving)[0]
        self.assertEqual([stands(one, scene, hand) for hand in (0, 1)], [("bell", "a", "x"), ("row", "b")])
        self.assertEqual(self.told(one, weaving), ())

    def test_those_at_passes_are_in_none(self):
        one = world([(("take", "p"),), (("take", "p"),)], passes=(("p", 0),))
        self.assertEqual(self.told(one, (0, 1)), ())

    def test_as_the_words_say(self):
        sizes = []
        turned = [round_of(("a", "b", "c"), hands, MANNERS) for hands in ("abc", "bac")]
        for one in turned + [thrown_round(seed) for seed in range(60)]:
            self.assertTrue(is_world(one))
            for scene in book(one, 3000)[1]:
                told = rings(one, scene)
                self.assertEqual(told, tuple(sorted([ring for ring in all_pairs(one) if is_ring(one, scene, ring)])))
                sizes += [len(ring) for ring in told]
        for size in (1, 2, 3):
            self.assertGreater(sizes.count(size), 1, size)

    def test_none_in_one_ever_steps_again(self):
        tried = 0
        for seed in range(60):
            one = thrown_round(seed)
            for scene in book(one, 3000)[1]:
                hands = [hand for ring in rings(one, scene) for hand, name in ring]
                if hands:
                    tried += 1
                    self.assertEqual(sorted(set(hands) & set(may_step(one, scene))), [])
                    self.assertEqual(sorted(set(hands) - set(lost(one, scene, 3000))), [])
        self.assertGreater(tried, 100)

    def test_told_again(self):
        one = round_of(("a", "b"), ("a", "b"))
        scene = walked(one, (0, 1, 0, 1))[0]
        self.assertEqual(rings(one, scene), rings(one, scene))


class ShowsRing(unittest.TestCase):
    NAMES = ("a", "b", "c")

    def setUp(self):
        self.one = round_of(self.NAMES, self.NAMES)
        self.scene = walked(self.one, (0, 1, 2, 0, 1, 2))[0]
        self.ring = ((0, "b"), (1, "c"), (2, "a"))

    def taken(self, thing, expected=True):
        self.assertIs(shows_ring(self.one, self.scene, thing), expected)

    def test_told(self):
        self.assertEqual(rings(self.one, self.scene), (self.ring,))
        self.taken(self.ring)
        self.assertIs(shows_ring(self.one, walked(self.one, (0, 1, 2, 0, 1))[0], self.ring), False)
        self.assertIs(shows_ring(self.one, begun(self.one), self.ring), False)

    def test_all_rings_told(self):
        tried = 0
        for seed in range(60):
            one = thrown_round(seed)
            for scene in book(one, 3000)[1]:
                told = rings(one, scene)
                for ring in told:
                    tried += 1
                    self.assertIs(shows_ring(one, scene, ring), True)
                self.assertIs(shows_ring(one, scene, told), False)
                self.assertIs(shows_ring(one, scene, ()), False)
        self.assertGreater(tried, 100)

    def test_as_the_words_say(self):
        for seed in range(12):
            one = thrown_round(seed)
            for scene in book(one, 3000)[1]:
                if not may_step(one, scene):
                    for ring in all_pairs(one):
                        self.assertIs(shows_ring(one, scene, ring), is_ring(one, scene, ring))

    def test_turned_about(self):
        first, second, third = self.ring
        for ring in ((second, third, first), (third, first, second), (third, second, first), (first, third, second)):
            self.taken(ring, False)

    def test_cut(self):
        first, second, third = self.ring
        for ring in ((), (first,), (second,), (third,), (first, second), (second, third), (first, third)):
            self.taken(ring, False)

    def test_a_hand_twice(self):
        first, second, third = self.ring
        for ring in (
            self.ring + self.ring, self.ring + (first,), (first,) + self.ring, (first, first, second, third),
            (first, second, second, third),
        ):
            self.taken(ring, False)

    def test_a_ring_of_one_twice(self):
        one = round_of(("a",), ("a",))
        scene = walked(one, (0, 0))[0]
        self.assertIs(shows_ring(one, scene, ((0, "a"),)), True)
        for thing in (
            ((0, "a"), (0, "a")), (0, "a"), ((False, "a"),), ((0, ["a"]),), ([0, "a"],), [(0, "a")], ((0, 0),), (("a", 0),),
            ((0, "a", 0),), ((0,),), ((),), (((0, "a"),),), ((1, "a"),), ((0, "b"),), ((0, b"a"),), ((0, None),),
        ):
            self.assertIs(shows_ring(one, scene, thing), False)

    def test_parts_otherwise(self):
        parts = [None, True, False, -1, 0, 1, 2, 3, 10 ** 30, "a", "b", "c", "d", "", "given", b"a", [], (), Odd(), object()]
        for path in paths_of(self.ring):
            for part in parts + [list(self.ring), [0, "b"], (0,), (0, "b", 0)]:
                kept = part_at(self.ring, path)
                if part.__class__ is not kept.__class__ or part != kept:
                    self.taken(changed(self.ring, path, part), False)

    def test_numbers_for_names(self):
        self.taken(((0, 1), (1, 2), (2, 0)), False)

    def test_truths_for_hands(self):
        self.taken(((False, "b"), (1, "c"), (2, "a")), False)
        self.taken(((0, "b"), (True, "c"), (2, "a")), False)

    def test_anything_else(self):
        for thing in odd_things() + [rings(self.one, self.scene), (self.ring,), list(self.ring)]:
            self.taken(thing, False)
            self.taken((thing,), False)
            self.taken((thing,) + self.ring, False)
            self.taken(self.ring + (thing,), False)


if __name__ == "__main__":
    unittest.main()
