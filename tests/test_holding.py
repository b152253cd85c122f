"""Point [20]'s worlds held against one another, and [3](e) and [2] for them."""

import unittest

from calledroom.crowds import crowd_of, marks_of
from calledroom.holding import held
from calledroom.scenes import begun
from calledroom.steps import walked
from calledroom.worlds import is_world
from tests.helper import room, thrown_world, world
from tests.talking import marks, pairs_by_rows, thrown_pair, thrown_talk, unlike

SAYS = (("say", 0), ("say", 1), ("say", 2))


def turned(told):
    """What is told of the worlds the other way about."""
    if told[0] == "alike":
        return ("alike", tuple([(yours, mine) for mine, yours in told[1]]))
    return told


def silent(many, rows):
    """The rows behind so many that change nothing but a scene."""
    return (("put", "o", "o"),) * many + rows


class Holding(unittest.TestCase):
    def told(self, one, other, most=2000):
        self.assertTrue(is_world(one))
        self.assertTrue(is_world(other))
        told = held(one, other, most)
        self.assertEqual(held(other, one, most), turned(told))
        return told

    def talker(self, *programs):
        return world(programs, passes=(("p", 0),), shared=(("o", 0),))


class Alike(Holding):
    def test_a_world_and_itself(self):
        one = self.talker(SAYS)
        scenes = [walked(one, (0,) * many)[0] for many in range(4)]
        self.assertEqual(self.told(one, one), ("alike", tuple([((scene,), (scene,)) for scene in scenes])))

    def test_worlds_by_number_and_themselves(self):
        for seed in range(60):
            for one in (thrown_world(seed), thrown_talk(seed)):
                sort, pairs = held(one, one, 3000)
                self.assertEqual(sort, "alike")
                for mine, yours in pairs:
                    self.assertEqual(mine, yours)
                    self.assertEqual(crowd_of(one, mine), mine)
                self.assertEqual(pairs[0][0], crowd_of(one, (begun(one),)))
                self.assertEqual(len(set(pairs)), len(pairs))

    def test_a_silent_row_more(self):
        for more in (("put", "o", "o"), ("go", 2), ("unless", 1, 0), ("give", "p")):
            rows = (("say", 0), more, ("say", 1))
            sort, pairs = self.told(self.talker((("say", 0), ("say", 1))), self.talker(rows))
            self.assertEqual((sort, len(pairs)), ("alike", 3))
            self.assertEqual([(len(mine), len(yours)) for mine, yours in pairs], [(1, 1), (1, 2), (1, 1)])

    def test_order_of_pairs(self):
        one = self.talker((("say", 5),), (("say", 3),))
        other = self.talker((("go", 1), ("say", 5)), (("say", 3),))

        def crowds(*weavings):
            mine = walked(one, weavings[0])[0]
            return ((mine,), tuple([walked(other, weaving)[0] for weaving in weavings[1:]]))

        self.assertEqual(self.told(one, other), ("alike", (
            crowds((), (), (0,)), crowds((0,), (0, 0)), crowds((1,), (1,), (0, 1)), crowds((0, 1), (0, 0, 1)),
        )))

    def test_one_event_by_two_ways(self):
        # Hand 1 may have put or not when hand 0 says; both are in one crowd behind it.
        one = self.talker((("say", 0), ("say", "o")), (("put", "o", 1),))
        sort, pairs = self.told(one, one)
        self.assertEqual([len(mine) for mine, yours in pairs], [2, 2, 2, 1])
        self.assertEqual(marks_of(one, pairs[1][0])[0], ((0, 0), (0, 1)))

    def test_never_said(self):
        self.assertEqual(self.told(self.talker((("go", 0),)), self.talker((("go", 1), ("go", 0))))[0], "alike")
        self.assertEqual(self.told(self.talker((("put", "o", 1),)), self.talker((("put", "o", 2), ("put", "o", 3))))[0], "alike")

    def test_rounds_of_other_sizes(self):
        one = self.talker((("say", 0), ("go", 0)))
        other = self.talker((("say", 0), ("say", 0), ("go", 0)))
        sort, pairs = self.told(one, other)
        self.assertEqual(sort, "alike")
        # Begun, then the crowd that is behind its round, against either place of the longer one.
        self.assertEqual([(len(mine), len(yours)) for mine, yours in pairs], [(1, 1), (2, 1), (2, 2)])

    def test_a_crowd_against_several(self):
        one = self.talker((("say", 0), ("go", 0)))
        for many in (1, 2, 3, 4):
            other = self.talker((("say", 0),) * many + (("go", 0),))
            sort, pairs = self.told(one, other)
            self.assertEqual(sort, "alike")
            self.assertEqual(len(set(pairs)), len(pairs))
            self.assertEqual(len(pairs), many + 1)

    def test_hands_that_say_the_same_are_not_one(self):
        one = self.talker((("say", 0),), (("put", "o", 0),))
        other = self.talker((("put", "o", 0),), (("say", 0),))
        self.assertEqual(self.told(one, other), ("parts", (), (0, 0)))

    def test_rooms_of_both_manners(self):
        deeds = {"d": (("wait", "x", 0),), "e": (("call", "x"),)}
        worlds = []
        for manner in ("at once", "when free"):
            rooms = [room("r", deeds, manner, (), (("x", "row"),))]
            worlds.append(world([(("do", None, "r", "d", 0), ("say", 0)), (("do", None, "r", "e", 0), ("say", 1))], rooms))
        self.assertEqual(self.told(*worlds)[0], "alike")


class Parts(Holding):
    def test_at_once(self):
        self.assertEqual(self.told(self.talker((("say", 0),)), self.talker((("say", 1),))), ("parts", (), (0, 0)))
        self.assertEqual(self.told(self.talker((("say", 7),)), self.talker((("say", 3),))), ("parts", (), (0, 3)))
        self.assertEqual(self.told(self.talker((("go", 0),)), self.talker((("say", 3),))), ("parts", (), (0, 3)))

    def test_a_say_more_less_or_otherwise(self):
        one = self.talker(SAYS)
        row = ((0, 0), (0, 1), (0, 2))
        self.assertEqual(self.told(one, self.talker(SAYS + (("say", 5),))), ("parts", row, (0, 5)))
        self.assertEqual(self.told(one, self.talker(SAYS[:2])), ("parts", row[:2], (0, 2)))
        self.assertEqual(self.told(one, self.talker(SAYS[:2] + (("say", 5),))), ("parts", row[:2], (0, 2)))
        self.assertEqual(self.told(one, self.talker(SAYS[:1] + (("say", 5),))), ("parts", row[:1], (0, 1)))

    def test_done_alone(self):
        one, other = self.talker(SAYS), self.talker(SAYS + (("go", 3),))
        row = ((0, 0), (0, 1), (0, 2))
        self.assertEqual(self.told(one, other), ("parts", row, "done"))
        self.assertEqual(self.told(self.talker((("put", "o", 1),)), self.talker((("go", 0),))), ("parts", (), "done"))

    def test_stuck_alone(self):
        row = ((0, 0), (0, 1), (0, 2))
        self.assertEqual(self.told(self.talker(SAYS + (("go", 3),)), self.talker(SAYS + (("take", "p"),))), ("parts", row, "stuck"))
        self.assertEqual(self.told(self.talker((("take", "p"),)), self.talker((("go", 0),))), ("parts", (), "stuck"))

    def test_done_is_told_ahead_of_stuck(self):
        self.assertEqual(self.told(self.talker((("take", "p"),)), self.talker((("put", "o", 1),))), ("parts", (), "done"))
        row = ((0, 0), (0, 1), (0, 2))
        self.assertEqual(self.told(self.talker(SAYS), self.talker(SAYS + (("take", "p"),))), ("parts", row, "done"))

    def test_events_are_told_ahead_of_both(self):
        self.assertEqual(self.told(self.talker((("take", "p"),)), self.talker((("say", 1),))), ("parts", (), (0, 1)))
        self.assertEqual(self.told(self.talker((("put", "o", 1),)), self.talker((("say", 1),))), ("parts", (), (0, 1)))

    def test_the_least_event_that_just_one_has(self):
        one = self.talker((("say", 4),), (("say", 0),), (("say", 3),))
        self.assertEqual(self.told(one, self.talker((("say", 4),), (("say", 1),), (("say", 2),))), ("parts", (), (1, 0)))
        self.assertEqual(self.told(one, self.talker((("say", 4),), (("say", 0),), (("say", 2),))), ("parts", (), (2, 2)))
        self.assertEqual(self.told(one, self.talker((("say", 5),), (("say", 1),), (("say", 2),))), ("parts", (), (0, 4)))

    def test_the_shorter_row(self):
        one = self.talker((("say", 0), ("say", 1), ("say", 2)), (("say", 0), ("say", 1)))
        other = self.talker((("say", 0), ("say", 1), ("say", 9)), (("say", 0), ("say", 9)))
        self.assertEqual(self.told(one, other), ("parts", ((1, 0),), (1, 1)))

    def test_the_first_of_one_size(self):
        one = self.talker((("say", 0), ("say", 1)), (("say", 0), ("say", 1)))
        other = self.talker((("say", 0), ("say", 2)), (("say", 0), ("say", 2)))
        self.assertEqual(self.told(one, other), ("parts", ((0, 0),), (0, 1)))
        one = self.talker((("say", 0), ("say", 1)), (("say", 3), ("say", 0), ("say", 1)))
        other = self.talker((("say", 0), ("say", 1)), (("say", 3), ("say", 0), ("say", 2)))
        self.assertEqual(self.told(one, other), ("parts", ((1, 3), (1, 0)), (1, 1)))

    def test_behind_a_choice(self):
        # Only where hand 1 spoke first does hand 0 say another thing.
        rows = (("say", "o"), ("unless", "o", 3), ("say", 7))
        one = self.talker(rows, (("put", "o", 1), ("say", 1)))
        other = self.talker(rows[:2] + (("say", 8),), (("put", "o", 1), ("say", 1)))
        told = self.told(one, other)
        self.assertEqual(told, ("parts", ((0, 0),), (0, 7)))

    def test_rooms_of_both_manners(self):
        deeds = {"d": (("wait", "x", 0),), "e": (("call", "x"), ("put", "t", 1))}
        look = {"f": (("tell", "t"),)}
        worlds = []
        for manner in ("at once", "when free"):
            waiting = (("wait", "x", 0), ("tell", "t"))
            rooms = [room("r", dict(deeds, d=waiting, **look), manner, (("t", 0),), (("x", "row"),))]
            hands = (((("m", 0),), (("do", "m", "r", "d", 0), ("say", "m"))), ((), (("do", None, "r", "e", 0),)))
            worlds.append((tuple(rooms), (), (), hands))
        # At once the called one sees what the caller hasn't put yet.
        self.assertEqual(self.told(*worlds), ("parts", (), (0, 0)))


class Bounds(Holding):
    def test_open_by_the_size_of_a_crowd(self):
        for many in (1, 2, 5):
            one = world([silent(many, (("say", 0),))], shared=(("o", 0),))
            sort, pairs = self.told(one, one, many + 1)
            self.assertEqual((sort, len(pairs)), ("alike", 2))
            self.assertEqual(self.told(one, one, many), ("open", None))

    def test_open_by_the_size_of_either_crowd(self):
        one = world([silent(4, (("say", 0),))], shared=(("o", 0),))
        other = world([silent(0, (("say", 0),))], shared=(("o", 0),))
        self.assertEqual(self.told(one, other, 5)[0], "alike")
        self.assertEqual(self.told(one, other, 4), ("open", None))

    def test_open_by_the_size_of_a_later_crowd(self):
        one = world([(("say", 0), ("say", 0)) + silent(4, (("say", 0),))], shared=(("o", 0),))
        self.assertEqual(self.told(one, one, 5)[0], "alike")
        self.assertEqual(self.told(one, one, 4), ("open", None))

    def test_a_crowd_that_is_too_large_before_it_is_closed(self):
        # One event leads to two scenes, from each of which no step is silent.
        one = world([(("unless", "o", 2), ("say", 0), ("say", 0), ("say", 1)), (("put", "o", 1), ("say", 2))], shared=(("o", 0),))
        pairs = self.told(one, one)[1]
        largest = max([len(mine) for mine, yours in pairs])
        self.assertEqual(self.told(one, one, max(largest, len(pairs)))[0], "alike")
        self.assertEqual(self.told(one, one, max(largest, len(pairs)) - 1), ("open", None))

    def test_open_by_the_number_of_pairs(self):
        for many in (1, 2, 5, 9):
            one = self.talker((("say", 0),) * many)
            self.assertEqual(len(self.told(one, one, many + 1)[1]), many + 1)
            self.assertEqual(self.told(one, one, many), ("open", None))
        one = self.talker(SAYS, SAYS)
        self.assertEqual(len(self.told(one, one, 16)[1]), 16)
        self.assertEqual(self.told(one, one, 15), ("open", None))

    def test_one_pair(self):
        one = self.talker((("go", 0),))
        self.assertEqual(self.told(one, one, 1), ("alike", (((begun(one),), (begun(one),)),)))
        self.assertEqual(self.told(one, self.talker((("say", 0),)), 1), ("parts", (), (0, 0)))

    def test_parted_at_the_bound(self):
        one, other = self.talker(SAYS), self.talker(SAYS[:2] + (("say", 7),))
        # The row of two events leads to the third pair, of crowds of one scene each.
        for most in (3, 4, 100):
            self.assertEqual(self.told(one, other, most), ("parts", ((0, 0), (0, 1)), (0, 2)))
        for most in (1, 2):
            self.assertEqual(self.told(one, other, most), ("open", None))

    def test_parted_ahead_of_more_pairs_than_most(self):
        # There are more pairs than most behind the one that parts; that one is told all the same.
        one, other = self.talker((("say", 0),) + SAYS * 3), self.talker((("say", 0),) + SAYS * 3, (("say", 7),))
        for most in (1, 2, 3, 100):
            self.assertEqual(held(one, other, most), ("parts", (), (1, 7)))

    def test_open_only_where_there_is_too_much(self):
        sorts = []
        for seed in range(60):
            one, other = thrown_pair(seed)
            full = held(one, other, 3000)
            self.assertNotEqual(full[0], "open")
            rows = pairs_by_rows(one, other, 9)
            pairs = set([pair for row, pair in rows])
            largest = max([len(crowd) for pair in pairs for crowd in pair])
            for most in range(1, max(largest, len(pairs)) + 2):
                told = held(one, other, most)
                sorts.append(told[0])
                if told != full:
                    self.assertEqual(told, ("open", None))
                    self.assertTrue(largest > most or len(pairs) > most)
                elif full[0] == "alike":
                    self.assertTrue(largest <= most and len(pairs) <= most)
        self.assertEqual(sorted(set(sorts)), ["alike", "open", "parts"])


class ByWords(Holding):
    def test_pairs(self):
        tried = 0
        for seed in range(60):
            one, other = thrown_pair(seed)
            told = self.told(one, other)
            rows = pairs_by_rows(one, other, 6)
            if told[0] == "alike":
                found = []
                for row, pair in rows:
                    if pair not in found:
                        found.append(pair)
                self.assertEqual(told[1][:len(found)], tuple(found))
                self.assertEqual([marks(one, mine) for mine, yours in told[1]], [marks(other, yours) for mine, yours in told[1]])
                tried += 1
        self.assertGreater(tried, 10)

    def test_rows_that_part(self):
        whats, sizes = set(), set()
        for seed in range(320):
            one, other = thrown_pair(seed)
            told = self.told(one, other)
            rows = [(row, unlike(marks(one, mine), marks(other, yours))) for row, (mine, yours) in pairs_by_rows(one, other, 6)]
            parting = [(row, what[0]) for row, what in rows if what]
            if parting or (told[0] == "parts" and len(told[1]) <= 6):
                self.assertEqual(told, ("parts",) + parting[0])
                whats.add(told[2] if isinstance(told[2], str) else "event")
                sizes.add(len(told[1]))
        self.assertEqual(whats, {"event", "done", "stuck"})
        self.assertGreater(len(sizes), 2)

    def test_told_again(self):
        one, other = thrown_pair(7)
        self.assertEqual(held(one, other, 500), held(one, other, 500))


if __name__ == "__main__":
    unittest.main()
