"""Points [14] and [15]'s looks, and [3](c) and [2] for them."""

import unittest

from calledroom.booklooks import shows_book, shows_never, shows_stuck
from calledroom.books import book
from calledroom.scenes import begun
from calledroom.steps import may_step, stepped, walked
from calledroom.stuckness import stuck_way
from tests.helper import Odd, changed, odd_things, own, part_at, paths_of, thrown_world, world
from tests.test_books import can_follow
from tests.test_steps import DO, one_room
from tests.test_stuckness import crossed, is_stuck

# A room's deed in which one waits and another one calls, so that each line of a scene is somewhere filled.
CALLING = {"d": (("wait", "x", 0),), "e": (("call", "x"),)}
CROSSED = crossed([(("do", None, "a", "d", 0),), (("do", None, "b", "d", 0),)])


def calling(manner):
    return one_room(CALLING, [(DO,), (("do", None, "r", "e", 0),)], manner, (("t", 1),), (("x", "turns"),))


def is_book(one, scenes):
    """What [14] asks of a tuple of scenes, word by word."""
    if not scenes or scenes[0] != begun(one):
        return False
    goals = [[stepped(one, scene, hand)[0] for hand in may_step(one, scene)] for scene in scenes]
    for at, scene in enumerate(scenes):
        if scene in scenes[:at] or (at > 0 and not any([scene in row for row in goals[:at]])):
            return False
    return all([goal in scenes for row in goals for goal in row])


def small_worlds():
    """Worlds by number whose books are small, and a few more."""
    worlds = [thrown_world(seed) for seed in range(60)]
    small = [one for one in worlds if book(one, 20)[0] == "all"]
    return small + [calling("at once"), calling("when free"), CROSSED, world([(("go", 0),)])]


def otherwise(part):
    """Parts that are like this one, or nearly so, but of another kind or value."""
    if isinstance(part, tuple):
        return [list(part), part + (0,), part[:-1] if part else (0,), None, Odd(), (part,)]
    return [part == 1, part + 1, str(part), [part], (part,), None, Odd(), complex(part)]


class ShowsBook(unittest.TestCase):
    def taken(self, one, thing, expected=True):
        self.assertIs(shows_book(one, thing), expected)

    def test_books_told(self):
        for seed in range(60):
            one = thrown_world(seed)
            self.taken(one, book(one, 3000)[1])
        for one in small_worlds():
            self.taken(one, book(one, 500)[1])

    def test_what_is_told_is_not_the_book(self):
        self.taken(CROSSED, book(CROSSED, 500), False)
        self.taken(CROSSED, ("open", None), False)
        self.taken(CROSSED, list(book(CROSSED, 500)[1]), False)

    def test_begun_alone(self):
        one = world([(("go", 0),)])
        self.taken(one, (begun(one),))
        one = world([(("say", 0),)])
        self.taken(one, (begun(one),), False)
        self.taken(one, (begun(one), walked(one, (0,))[0]))
        self.taken(one, (walked(one, (0,))[0],), False)
        self.taken(one, (), False)

    def test_a_scene_left_out(self):
        for one in small_worlds():
            scenes = book(one, 500)[1]
            for at in range(len(scenes)):
                self.taken(one, scenes[:at] + scenes[at + 1:], False)

    def test_cut(self):
        for one in small_worlds():
            scenes = book(one, 500)[1]
            for at in range(len(scenes)):
                self.taken(one, scenes[:at], False)

    def test_a_scene_twice(self):
        for one in small_worlds():
            scenes = book(one, 500)[1]
            for at, scene in enumerate(scenes):
                self.taken(one, scenes + (scene,), False)
                self.taken(one, scenes[:at] + (scene,) + scenes[at:], False)

    def test_a_scene_twice_for_another_one(self):
        for one in small_worlds():
            scenes = book(one, 500)[1]
            for at in range(1, len(scenes)):
                self.taken(one, scenes[:at] + (scenes[at - 1],) + scenes[at + 1:], False)

    def test_begun_not_first(self):
        for one in small_worlds():
            scenes = book(one, 500)[1]
            if len(scenes) > 1:
                self.taken(one, scenes[1:] + scenes[:1], False)
                self.taken(one, scenes[::-1], False)
                self.taken(one, (scenes[1], scenes[0]) + scenes[2:], False)

    def test_begun_again_is_come_to(self):
        one = world([(("say", 0), ("go", 0))])
        scenes = book(one, 9)[1]
        self.assertEqual(len(scenes), 2)
        self.taken(one, scenes)
        self.taken(one, scenes[::-1], False)

    def test_two_exchanged(self):
        told = []
        for one in small_worlds():
            scenes = book(one, 500)[1]
            for first in range(len(scenes)):
                for second in range(first):
                    other = list(scenes)
                    other[first], other[second] = other[second], other[first]
                    told.append(is_book(one, tuple(other)))
                    self.taken(one, tuple(other), told[-1])
        self.assertGreater(told.count(True), 50)
        self.assertGreater(told.count(False), 50)

    def test_other_orders(self):
        for one in small_worlds():
            scenes, due = [], [begun(one)]
            while due:
                scene = due.pop()
                if scene not in scenes:
                    scenes.append(scene)
                    due += [stepped(one, scene, hand)[0] for hand in may_step(one, scene)]
            self.taken(one, tuple(scenes))

    def test_a_scene_that_comes_of_one_behind_it_alone(self):
        one = world([(("say", 0),) * 3])
        scenes = book(one, 9)[1]
        self.taken(one, scenes)
        for order in ((0, 2, 1, 3), (0, 1, 3, 2), (0, 3, 2, 1), (1, 0, 2, 3)):
            self.taken(one, tuple([scenes[at] for at in order]), False)

    def test_a_scene_to_which_no_weaving_leads(self):
        one = world([(("go", 2), ("say", 0), ("say", 1))])
        scenes = book(one, 9)[1]
        never = ((), (), (), (((), (own(1),)),))
        self.assertEqual(len(scenes), 3)
        self.taken(one, scenes)
        self.assertNotIn(never, scenes)
        for at in range(len(scenes) + 1):
            self.taken(one, scenes[:at] + (never,) + scenes[at:], False)

    def test_an_island_of_scenes_is_not_taken(self):
        # Each of these comes of the other one by a step, and neither of begun.
        one = world([(("go", 0), ("say", 0), ("go", 1))])
        island = tuple([((), (), (), (((), (own(row),)),)) for row in (1, 2)])
        self.taken(one, (begun(one),))
        self.taken(one, (begun(one),) + island, False)

    def test_of_another_world(self):
        one = world([(("say", 0), ("say", 0))])
        other = world([(("say", 0), ("say", 0), ("say", 0))])
        self.taken(one, book(other, 9)[1], False)
        self.taken(other, book(one, 9)[1], False)

    def test_things_otherwise_at_any_depth(self):
        for one in (calling("at once"), calling("when free")):
            scenes = book(one, 500)[1]
            for path in paths_of(scenes):
                for part in otherwise(part_at(scenes, path)):
                    self.taken(one, changed(scenes, path, part), False)

    def test_truths_for_numbers(self):
        tried = 0
        for one in small_worlds():
            scenes = book(one, 500)[1]
            for path in paths_of(scenes):
                part = part_at(scenes, path)
                if part in (0, 1):
                    tried += 1
                    self.assertEqual(changed(scenes, path, part == 1), scenes)
                    self.taken(one, changed(scenes, path, part == 1), False)
        self.assertGreater(tried, 1000)

    def test_anything_else(self):
        for one in (CROSSED, world([(("go", 0),)])):
            for thing in odd_things():
                self.taken(one, thing, False)
                self.taken(one, (thing,), False)
                self.taken(one, (begun(one), thing), False)
                self.taken(one, (thing,) + book(one, 500)[1], False)
                self.taken(one, book(one, 500)[1] + (thing,), False)


class ShowsStuck(unittest.TestCase):
    def taken(self, one, thing, expected=True):
        self.assertIs(shows_stuck(one, thing), expected)

    def test_ways_told(self):
        ways = 0
        for seed in range(60):
            one = thrown_world(seed)
            sort, way = stuck_way(one, 3000)
            if sort == "way":
                ways += 1
                self.taken(one, way)
                for at in range(len(way)):
                    self.taken(one, way[:at], False)
                    self.taken(one, way[at + 1:], is_stuck(one, way[at + 1:]) if self.can_be(one, way[at + 1:]) else False)
                for hand in range(len(one[3])):
                    self.taken(one, way + (hand,), False)
        self.assertGreater(ways, 10)

    def can_be(self, one, weaving):
        return all([hand in can_follow(one, weaving[:at]) for at, hand in enumerate(weaving)])

    def test_all_weavings(self):
        told = []
        for seed in range(30):
            one = thrown_world(seed)
            weavings = [()]
            for size in range(6):
                for weaving in weavings:
                    told.append(is_stuck(one, weaving))
                    self.taken(one, weaving, told[-1])
                weavings = [weaving + (hand,) for weaving in weavings for hand in can_follow(one, weaving)]
        self.assertGreater(told.count(True), 10)

    def test_another_way(self):
        self.assertEqual(stuck_way(CROSSED, 500), ("way", (0, 1, 0, 1)))
        for way in ((0, 1, 0, 1), (0, 1, 1, 0), (1, 0, 0, 1), (1, 0, 1, 0)):
            self.taken(CROSSED, way)
        for way in ((0, 0, 1, 1), (0, 1, 0), (0, 1), (0,), (), (0, 1, 0, 0), (0, 1, 0, 1, 0), (0, 1, 0, 1, 1)):
            self.taken(CROSSED, way, False)

    def test_a_longer_way(self):
        one = world([(("unless", "o", 0), ("take", "p")), (("put", "o", 1),)], passes=(("p", 0),), shared=(("o", 0),))
        self.assertEqual(stuck_way(one, 50), ("way", (1, 0, 0)))
        self.taken(one, (0,) * 50 + (1, 0, 0))
        self.taken(one, (0,) * 50, False)
        self.taken(one, (0,) * 50 + (1, 0), False)

    def test_all_done_is_not_stuck(self):
        one = world([(("say", 0),), (("say", 0),)])
        self.taken(one, (0, 1), False)

    def test_hands_that_are_not_there(self):
        for hand in (-1, -2, 2, 3, 10 ** 30):
            for at in range(5):
                self.taken(CROSSED, (0, 1, 0, 1)[:at] + (hand,) + (0, 1, 0, 1)[at:], False)
                self.taken(CROSSED, (0, 1, 0, 1)[:at] + (hand,) + (0, 1, 0, 1)[at + 1:], False)

    def test_other_kinds(self):
        self.taken(CROSSED, [0, 1, 0, 1], False)
        self.taken(CROSSED, ("way", (0, 1, 0, 1)), False)
        for at in range(4):
            for part in otherwise((0, 1, 0, 1)[at]):
                self.taken(CROSSED, changed((0, 1, 0, 1), (at,), part), False)

    def test_anything_else(self):
        for one in (CROSSED, world([(("take", "p"),)], passes=(("p", 0),))):
            for thing in odd_things():
                if thing.__class__ is not tuple or len(thing) != 1:
                    self.taken(one, thing, False)
                self.taken(one, (thing,), False)
                self.taken(one, (0, thing), False)

    def test_one_alone(self):
        one = world([(("take", "p"),)], passes=(("p", 0),))
        self.taken(one, (0,))
        for thing in ((), (False,), (1,), (True,), (-1,), (0, 0), [0], 0, None, ((0,),)):
            self.taken(one, thing, False)


class ShowsNever(unittest.TestCase):
    def taken(self, one, thing, expected=True):
        self.assertIs(shows_never(one, thing), expected)

    def test_books_told(self):
        sorts = []
        for seed in range(80):
            one = thrown_world(seed)
            sorts.append(stuck_way(one, 3000)[0])
            self.taken(one, book(one, 3000)[1], sorts[-1] == "never")
        self.assertEqual(sorted(set(sorts)), ["never", "way"])

    def test_books_that_are_not_whole(self):
        one = one_room({"d": (("tell", 1),)}, [(DO,)] * 2)
        scenes = book(one, 50)[1]
        self.taken(one, scenes)
        for at in range(len(scenes)):
            self.taken(one, scenes[:at], False)
            self.taken(one, scenes[:at] + scenes[at + 1:], False)
            self.taken(one, scenes + (scenes[at],), False)
        self.taken(one, list(scenes), False)
        self.taken(one, scenes[::-1], False)

    def test_without_its_stuck_scenes(self):
        scenes = book(CROSSED, 500)[1]
        self.taken(CROSSED, scenes, False)
        self.taken(CROSSED, tuple([scene for scene in scenes if may_step(CROSSED, scene)]), False)

    def test_the_scene_in_which_all_are_done_is_not_stuck(self):
        one = world([(("say", 0),)])
        self.taken(one, book(one, 9)[1])

    def test_stuck_in_the_last_scene_alone(self):
        one = world([(("say", 0), ("take", "p"))], passes=(("p", 0),))
        self.taken(one, book(one, 9)[1], False)

    def test_another_order(self):
        one = world([(("say", 0),), (("say", 0),)])
        first, second, third, last = book(one, 9)[1]
        self.taken(one, (first, third, second, last))
        self.taken(one, (first, third, last, second))
        self.taken(one, (first, last, third, second), False)

    def test_things_otherwise_at_any_depth(self):
        one = one_room(CALLING, [(("do", None, "r", "e", 0),)], "at once", (("t", 1),), (("x", "turns"),))
        scenes = book(one, 500)[1]
        self.taken(one, scenes)
        for path in paths_of(scenes):
            for part in otherwise(part_at(scenes, path)):
                self.taken(one, changed(scenes, path, part), False)

    def test_anything_else(self):
        one = world([(("go", 0),)])
        self.taken(one, (begun(one),))
        for thing in odd_things() + [("never", None), ("all", (begun(one),)), ((begun(one),),), [begun(one)]]:
            self.taken(one, thing, False)
            self.taken(one, (thing,), False)
            self.taken(one, (begun(one), thing), False)


if __name__ == "__main__":
    unittest.main()
